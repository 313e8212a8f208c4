package roll_test

import (
	"slices"
	"strings"
	"sync"
	"testing"

	"hallmoot/api"
	"hallmoot/roll"
	"hallmoot/tape"
)

const (
	ok      = api.OK
	arg     = api.ErrArg
	tooLong = api.ErrLong
	none    = api.ErrNil
	power   = api.ErrPower
	noRoom  = api.ErrRoom
	gone    = api.ErrLost
)

// TestP18_1_DressByHand: 0 becomes 1, 1; 1 becomes 1, 2; all others stay; and Strip tells the bytes.
func TestP18_1_DressByHand(t *testing.T) {
	for _, y := range []struct{ s, dressed string }{
		{"", ""}, {"\x00", "\x01\x01"}, {"\x01", "\x01\x02"}, {"\x02", "\x02"}, {"\x03", "\x03"}, {"a", "a"}, {"\xff", "\xff"},
		{"\x00\x00", "\x01\x01\x01\x01"}, {"\x01\x01", "\x01\x02\x01\x02"}, {"\x01\x02", "\x01\x02\x02"}, {"\x02\x01", "\x02\x01\x02"},
		{"\x00\x01", "\x01\x01\x01\x02"}, {"\x01\x00", "\x01\x02\x01\x01"}, {"a\x00b", "a\x01\x01b"}, {"\x80\x01\xc3", "\x80\x01\x02\xc3"}, {"é\x00", "é\x01\x01"},
	} {
		if got := roll.Dress(y.s); got != y.dressed {
			t.Errorf("Dress(%q): %q, not %q", y.s, got, y.dressed)
		}
		strips(t, y.dressed, y.s)
	}
}

// TestP18_1_DressOfEachByte: alone, and between others.
func TestP18_1_DressOfEachByte(t *testing.T) {
	for c, s := range each() {
		want := s
		switch c {
		case 0:
			want = "\x01\x01"
		case 1:
			want = "\x01\x02"
		}
		if got := roll.Dress(s); got != want {
			t.Errorf("Dress(%q): %q", s, got)
		}
		if got := roll.Dress("a" + s + s + "\x02"); got != "a"+want+want+"\x02" {
			t.Errorf("Dress of %q twice: %q", s, got)
		}
		strips(t, want, s)
		strips(t, "\x02"+want+want, "\x02"+s+s)
	}
}

// TestP18_1_DressOfRows: all of 0, 1, 2 and 3; no marks, unlike ones are unlike, and Strip tells the bytes.
func TestP18_1_DressOfRows(t *testing.T) {
	seen := map[string]string{}
	for _, s := range rows("\x00\x01\x02\x03", 7) {
		got := roll.Dress(s)
		if got != dressed(s) || strings.Contains(got, "\x00") {
			t.Fatalf("Dress(%q): %q", s, got)
		}
		if other, there := seen[got]; there {
			t.Fatalf("Dress of %q and of %q: %q", other, s, got)
		}
		seen[got] = s
		strips(t, got, s)
	}
}

// TestP18_1_StripOfRows: all of 0, 1, 2 and 3: the bytes whose dressed bytes they are, or ErrFrame.
func TestP18_1_StripOfRows(t *testing.T) {
	bare := map[string]string{}
	for _, s := range rows("\x00\x01\x02\x03", 7) {
		bare[dressed(s)] = s
	}
	found := 0
	for _, s := range rows("\x00\x01\x02\x03", 7) {
		want, is := bare[s]
		if !is {
			frameless(t, s)
			continue
		}
		found++
		strips(t, s, want)
	}
	if found < 1000 {
		t.Errorf("only %d are dressed", found)
	}
}

// TestP18_1_StripOfNoDressedBytes: by hand.
func TestP18_1_StripOfNoDressedBytes(t *testing.T) {
	for _, s := range []string{
		"\x00", "\x01", "\x01\x00", "\x01\x03", "\x01a", "\x01\xff", "\x01\x80", "a\x00", "\x00a", "a\x00b", "ab\x01", "\x01\x01\x01", "\x01\x02\x01",
		"\x01\x01\x00", "\x02\x01", "\x01\x01\x01\x03", "\x01\x02\x01\x00", "\x01\x02\x02\x00", "\x00\x01\x01", "\x01\x01\x02\x01",
	} {
		frameless(t, s)
	}
}

// TestP18_1_StripOfAMark: at each place of each kind of row.
func TestP18_1_StripOfAMark(t *testing.T) {
	for _, s := range []string{"", "abcdef", "\x01\x01\x01\x02a", "\x02\x02\x01\x02\x01\x01", strings.Repeat("\x01\x01", 20)} {
		for i := range len(s) + 1 {
			frameless(t, s[:i]+"\x00"+s[i:])
			frameless(t, s[:i]+"\x00"+s[min(i+1, len(s)):])
		}
	}
}

// TestP18_1_StripOfASign: with each byte behind it, and with none.
func TestP18_1_StripOfASign(t *testing.T) {
	for _, ahead := range []string{"", "a", "\x02", "\x01\x01", "\x01\x02", "xyz\x01\x02"} {
		bare, _ := stripped(ahead)
		frameless(t, ahead+"\x01")
		for c, s := range each() {
			for _, behind := range []string{"", "b", "\x02", "\x01\x02"} {
				switch rest, _ := stripped(behind); c {
				case 1:
					strips(t, ahead+"\x01"+s+behind, bare+"\x00"+rest)
				case 2:
					strips(t, ahead+"\x01"+s+behind, bare+"\x01"+rest)
				default:
					frameless(t, ahead+"\x01"+s+behind)
				}
			}
		}
	}
}

// TestP18_1_StripOfPairs: all of two bytes.
func TestP18_1_StripOfPairs(t *testing.T) {
	for _, a := range each() {
		for _, b := range each() {
			if want, is := stripped(a + b); is {
				strips(t, a+b, want)
				continue
			}
			frameless(t, a+b)
		}
	}
}

// TestP18_1_StripOfDress: of drawn rows the bytes; and of drawn rows what they are dressed of, or ErrFrame.
func TestP18_1_StripOfDress(t *testing.T) {
	d := &dice{1}
	for range 3000 {
		s := string(d.row(d.below(200)))
		got := roll.Dress(s)
		if got != dressed(s) {
			t.Fatalf("Dress(%q): %q", s, got)
		}
		strips(t, got, s)
		b := []byte(got)
		for range min(len(b), 1+d.below(2)) {
			b[d.below(len(b))] = byte(d.below(4))
		}
		if want, is := stripped(string(b)); is {
			strips(t, string(b), want)
			continue
		}
		frameless(t, string(b))
	}
}

// TestP18_1_DressOfMany: as many bytes as an entry may have, and more.
func TestP18_1_DressOfMany(t *testing.T) {
	for _, c := range []string{"\x00", "\x01", "\x02"} {
		s := strings.Repeat(c, 1<<22+5)
		got := roll.Dress(s)
		if got != strings.Repeat(dressed(c), 1<<22+5) {
			t.Fatalf("Dress of %q: %d bytes", c, len(got))
		}
		strips(t, got, s)
		frameless(t, got+"\x00")
		frameless(t, got+"\x01")
	}
}

// TestP18_Examples: those of the chapter.
func TestP18_Examples(t *testing.T) {
	if got := roll.Dress("\x00\x01\x02"); got != "\x01\x01\x01\x02\x02" {
		t.Errorf("Dress: %q", got)
	}
	if got := line(t, 1, 1, "\x09"); got != "\x01\x02\x01\x02\x09\x00" {
		t.Errorf("Line: %q", got)
	}
}

// TestP18_1_LineByHand: of both kinds, and of Numbers whose bytes are dressed or aren't.
func TestP18_1_LineByHand(t *testing.T) {
	for _, y := range []struct {
		n    int64
		kind int
		s    string
		want string
	}{
		{1, 1, "", "\x01\x02\x01\x02\x00"},
		{1, 2, "", "\x01\x02\x02\x00"},
		{2, 1, "", "\x02\x01\x02\x00"},
		{2, 2, "a", "\x02\x02a\x00"},
		{3, 1, "\x00\x01\x02", "\x03\x01\x02\x01\x01\x01\x02\x02\x00"},
		{127, 2, "", "\x7f\x02\x00"},
		{128, 2, "", "\x80\x01\x02\x02\x00"},
		{129, 1, "", "\x81\x01\x02\x01\x02\x00"},
		{256, 2, "", "\x80\x02\x02\x00"},
		{300, 2, "", "\xac\x02\x02\x00"},
		{1 << 14, 2, "", "\x80\x80\x01\x02\x02\x00"},
		{1 << 62, 1, "z", "\x80\x80\x80\x80\x80\x80\x80\x80\x40\x01\x02z\x00"},
		{1<<62 - 1, 2, "\x00", "\xff\xff\xff\xff\xff\xff\xff\xff\x3f\x02\x01\x01\x00"},
	} {
		if got := line(t, y.n, y.kind, y.s); got != y.want {
			t.Errorf("Line(%d, %d, %q): %q", y.n, y.kind, y.s, got)
		}
	}
}

// TestP18_1_Line: of each Number, Kind and bytes that may be; it has one mark, at its end.
func TestP18_1_Line(t *testing.T) {
	for _, n := range numbers() {
		for kind := 1; kind <= 2; kind++ {
			for _, s := range append(each(), "", "\x00\x00", "\x01\x02", "\x02\x01", strings.Repeat("\x00a", 50)) {
				got := line(t, n, kind, s)
				if strings.Index(got, "\x00") != len(got)-1 {
					t.Fatalf("Line(%d, %d, %q): %q", n, kind, s, got)
				}
			}
		}
	}
}

// TestP18_1_LineOfAnotherNumber: of 0, below it, beyond MaxInt.
func TestP18_1_LineOfAnotherNumber(t *testing.T) {
	for _, n := range append(belows(), 0, 1<<62+1, 1<<62+2, 1<<63-2, 1<<63-1) {
		for _, s := range []string{"", "a"} {
			lineless(t, int64(n), 1, s, arg)
			lineless(t, int64(n), 2, s, arg)
		}
	}
	line(t, 1<<62, 1, "a")
	line(t, 1<<62, 2, "a")
}

// TestP18_1_LineOfAnotherKind: but for 1 and 2 there is none.
func TestP18_1_LineOfAnotherKind(t *testing.T) {
	for _, kind := range append(ends(), 0) {
		for _, n := range []int64{1, 2, 300, 1 << 62} {
			lineless(t, n, kind, "", arg)
			lineless(t, n, kind, "a", arg)
		}
	}
}

// TestP18_1_LineOfManyBytes: as many as may be, of each kind of bytes, and not one more.
func TestP18_1_LineOfManyBytes(t *testing.T) {
	for _, c := range []string{"\x00", "\x01", "a"} {
		s := strings.Repeat(c, 1<<22+1)
		lineless(t, 1, 1, s, tooLong)
		lineless(t, 1<<62, 2, s, tooLong)
		line(t, 1, 1, s[:1<<22])
		line(t, 1<<62, 2, s[:1<<22])
		line(t, 1, 1, s[:1<<22-1])
		entryless(t, lined(1, 1, s))
		entryless(t, lined(1<<62, 2, s))
	}
	lineless(t, 1, 1, strings.Repeat("a", 1<<23), tooLong)
}

// TestP18_1_WhichErrorFirst: what can't be, ahead of what is too long.
func TestP18_1_WhichErrorFirst(t *testing.T) {
	s := strings.Repeat("a", 1<<22+1)
	for _, n := range []int64{0, -1, 1<<62 + 1} {
		lineless(t, n, 1, s, arg)
		lineless(t, n, 0, s, arg)
	}
	for _, kind := range []int{0, -1, 3, 1<<32 + 1} {
		lineless(t, 1, kind, s, arg)
		lineless(t, 1<<62+1, kind, s, arg)
	}
	lineless(t, 1, 1, s, tooLong)
}

// TestP18_1_UnlineOfLines: each is the line of one entry; without its mark, with two, with bytes around it it is another one's, or none.
func TestP18_1_UnlineOfLines(t *testing.T) {
	for _, n := range numbers() {
		for kind := 1; kind <= 2; kind++ {
			for _, s := range []string{"", "a", "\x00", "\x01", "\x02", "\x00\x01\x02", "xyz"} {
				l := line(t, n, kind, s)
				entryless(t, l[:len(l)-1])
				entryless(t, l+"\x00")
				entryless(t, "\x00"+l)
				entryless(t, l+l)
				entryless(t, l+"a")
				entryless(t, l+"\x01")
				entryless(t, l[:len(l)-1]+"\x01\x00")
				entryless(t, l[:len(l)-1]+"\x01")
				entryless(t, l[:len(l)-1]+"\x02")
				unlines(t, l[:len(l)-1]+"\x02\x00", roll.Entry{Number: n, Kind: kind, Bytes: s + "\x02"})
				unlines(t, l[:len(l)-1]+"\x01\x01\x00", roll.Entry{Number: n, Kind: kind, Bytes: s + "\x00"})
			}
		}
	}
}

// TestP18_1_UnlineOfACutLine: with each byte taken out, with the bytes from one on taken away, with another byte at its place.
func TestP18_1_UnlineOfACutLine(t *testing.T) {
	whole := 0
	for _, n := range []int64{1, 2, 127, 128, 129, 1 << 14, 1 << 62} {
		for kind := 1; kind <= 2; kind++ {
			for _, s := range []string{"", "a", "\x00", "\x01\x00\x02", "abc\x00d"} {
				l := line(t, n, kind, s)
				for i := range len(l) {
					entryless(t, l[:i])
					fitting(t, l[i:])
					fitting(t, l[:i]+l[i+1:])
					fitting(t, l[:i]+"\x00")
					for _, c := range each() {
						if fitting(t, l[:i]+c+l[i+1:]) {
							whole++
						}
						fitting(t, l[:i]+c+l[i:])
					}
				}
			}
		}
	}
	if whole < 10000 {
		t.Errorf("only %d were lines", whole)
	}
}

// TestP18_1_UnlineOfOtherForms: of numbers with another form, of Kinds and Numbers that are none, of bytes that end too early.
func TestP18_1_UnlineOfOtherForms(t *testing.T) {
	for _, bare := range []string{
		"", "\x00", "\x01", "\x05", "\x80", "\x80\x80", "\xff\xff\xff", "a", // no Kind, or not the whole Number
		"\x00\x01", "\x00\x02a", "\x80\x00\x01", // a Number of 0
		"\x81\x00\x01", "\x81\x80\x00\x01a", "\xff\x00\x02", "\x81\x00\x02", // a Number in another form
		"\x01\x81\x00", "\x01\x82\x00a", "\x01\x81\x80\x00", "\x01\x80\x00", // a Kind in another form
		"\x01\x00", "\x01\x03", "\x01\x04a", "\x01\x7f", "\x01\x81\x01", "\x01\x82\x01", "\x01\x81\x02a", "\x01\x80\x01", // no Kind
		"\x01\x81\x80\x80\x80\x10", "\x01\x82\x80\x80\x80\x10", "\x01\x81\x80\x04", "\x01\x82\x80\x04", // Kinds that end as 1 or 2 do
		"\x01\x81\x80\x80\x80\x80\x80\x80\x80\x20", "\x01\x80\x80\x80\x80\x80\x80\x80\x80\x40", // and great ones
		"\x01\x80", "\x01\x81", "\x01\xff\xff", // not the whole Kind
		"\x81\x80\x80\x80\x80\x80\x80\x80\x40\x01", "\x80\x80\x80\x80\x80\x80\x80\x80\x41\x01", "\xff\xff\xff\xff\xff\xff\xff\xff\x7f\x01a", // a Number above MaxInt
		"\x80\x80\x80\x80\x80\x80\x80\x80\x80\x01\x01", "\x81\x80\x80\x80\x80\x80\x80\x80\x80\x00\x01", "\xff\xff\xff\xff\xff\xff\xff\xff\xff\x01\x01", // of ten bytes
	} {
		entryless(t, dressed(bare)+"\x00")
		entryless(t, dressed(bare))
		entryless(t, bare+"\x00")
	}
	for _, kind := range aboves() {
		if int64(kind) <= api.MaxInt {
			entryless(t, lined(1, kind, ""))
			entryless(t, lined(1, kind, "a"))
		}
	}
	for _, kind := range []int{1, 2} {
		entryless(t, lined(0, kind, ""))
		entryless(t, lined(1<<62+1, kind, ""))
		entryless(t, lined(1<<63-1, kind, "a"))
		unlines(t, lined(1<<62, kind, "a"), roll.Entry{Number: 1 << 62, Kind: kind, Bytes: "a"})
	}
}

// TestP18_1_UnlineOfNoLine: by hand.
func TestP18_1_UnlineOfNoLine(t *testing.T) {
	for _, s := range []string{
		"", "\x00", "\x00\x00", "\x01", "\x01\x00", "\x01\x02", "\x01\x02\x00", "\x01\x02\x01\x02", "\x01\x02\x01\x00", "\x01\x01\x02\x00", "\x02\x00", "a", "a\x00",
		"\x01\x02\x03\x00", "\x02\x03\x00", "\x02\x01\x01\x00", "\x02\x00\x02\x00", "\x01\x02\x00\x00", "\x02\x02\x01\x00", "\x02\x02\x01\x03\x00", "\x02\x02a",
	} {
		entryless(t, s)
	}
	unlines(t, "\x02\x02\x00", roll.Entry{Number: 2, Kind: 2})
	unlines(t, "a\x02b\x00", roll.Entry{Number: 97, Kind: 2, Bytes: "b"})
}

// TestP18_1_UnlineOfRows: all of few letters, held against a second reckoning; of what it tells Line is those bytes.
func TestP18_1_UnlineOfRows(t *testing.T) {
	whole := 0
	for _, s := range rows("\x00\x01\x02\x03\x80\x81", 6) {
		if fitting(t, s) {
			whole++
		}
		if fitting(t, s+"\x00") {
			whole++
		}
	}
	if whole < 2000 {
		t.Errorf("only %d were lines", whole)
	}
}

// TestP18_1_UnlineOfDrawnBytes: drawn ones with a mark behind them, and lines with drawn faults.
func TestP18_1_UnlineOfDrawnBytes(t *testing.T) {
	d := &dice{2}
	whole := 0
	for range 20000 {
		s := string(d.row(d.below(30)))
		fitting(t, s)
		if fitting(t, dressed(s)+"\x00") {
			whole++
		}
		b := []byte(lined(int64(1+d.below(300)), 1+d.below(2), s))
		fitting(t, string(b))
		b[d.below(len(b))] = d.row(1)[0]
		if fitting(t, string(b)) {
			whole++
		}
	}
	if whole < 2000 {
		t.Errorf("only %d were lines", whole)
	}
}

// TestP18_2_OpenOfNoTape: tape.Read's error.
func TestP18_2_OpenOfNoTape(t *testing.T) {
	closed(t, nil, none)
}

// TestP18_2_OpenOfAnEmptyTape: nothing counts, and the next Number is 1; no stroke is asked for.
func TestP18_2_OpenOfAnEmptyTape(t *testing.T) {
	for _, room := range []int{0, 1, 100, api.MaxDisk} {
		x := made(t, room)
		fuse(t, x, 0)
		tells(t, opened(t, x), 1, "")
		fast(t, x, 0, "")
	}
	x := written(t, "abc")
	if e := x.Shed(3); e != ok {
		t.Fatalf("tape.Shed: %d", e)
	}
	tells(t, opened(t, x), 1, "")
	fast(t, x, 3, "")
}

// TestP18_2_OpenWithThePowerOff: ErrPower, whatever the tape holds, and nothing is taken back.
func TestP18_2_OpenWithThePowerOff(t *testing.T) {
	for _, s := range []string{"", "\x00", "a", "a\x00", lined(1, 1, "a"), lined(1, 1, "a") + "b"} {
		x := written(t, s)
		out(t, x)
		closed(t, x, power)
		fuse(t, x, 100)
		closed(t, x, power)
		places(t, x, 0, len(s), len(s))
		crash(t, x, 0)
		fast(t, x, 0, s)
	}
}

// TestP18_2_OpenOfOneLine: of each kind; the first Number is any.
func TestP18_2_OpenOfOneLine(t *testing.T) {
	for _, n := range numbers() {
		for _, s := range append(each(), "", "\x00\x01\x02", strings.Repeat("ab\x00", 30)) {
			x := written(t, lined(n, 1, s))
			tells(t, opened(t, x), n+1, "", s)
			x = written(t, lined(n, 2, s))
			tells(t, opened(t, x), n+1, s)
		}
		right(t, lined(n, 1, "a"), n+1, "", "a")
		right(t, lined(n, 2, "a"), n+1, "a")
	}
}

// TestP18_2_OpenOfNoLine: among others, first and last; nothing is taken back, though there is a torn end.
func TestP18_2_OpenOfNoLine(t *testing.T) {
	one, two := lined(1, 1, "a"), lined(2, 2, "b")
	for _, s := range []string{
		"\x00", "a\x00", "\x01\x00", "\x01\x02\x00", "\x02\x01\x01\x00", "\x01\x03\x02\x00", "\x02\x02\x01\x00", "\x02\x02\x01\x03\x00",
		lined(0, 1, ""), lined(0, 2, "a"), lined(1, 0, ""), lined(2, 3, ""), lined(3, 129, ""), lined(1<<62+1, 1, ""), "\x81\x01\x01\x02\x00", "\x01\x02\x82\x01\x01\x00",
	} {
		lost(t, s)
		lost(t, s+one)
		lost(t, s+two)
		lost(t, one+s)
		lost(t, one+s+two)
		lost(t, one+two+s)
	}
	right(t, one+two, 3, "b")
}

// TestP18_2_OpenOfMarks: of each many.
func TestP18_2_OpenOfMarks(t *testing.T) {
	for many := 1; many < 20; many++ {
		lost(t, strings.Repeat("\x00", many))
		lost(t, lined(1, 1, "a")+strings.Repeat("\x00", many))
	}
	x := made(t, api.MaxDisk)
	loose(t, x, strings.Repeat("\x00", api.MaxDisk))
	closed(t, x, gone)
	places(t, x, 0, 0, api.MaxDisk)
}

// TestP18_2_Numbers: they rise by one, from any on, whatever the Kinds are.
func TestP18_2_Numbers(t *testing.T) {
	for _, l := range [][]int64{{1, 2, 3}, {5, 6, 7}, {127, 128, 129}, {255, 256, 257}, {1<<32 - 1, 1 << 32, 1<<32 + 1}, {1<<62 - 2, 1<<62 - 1, 1 << 62}} {
		for kinds := range 8 {
			s := ""
			var entries []roll.Entry
			for i, n := range l {
				s += lined(n, 1+kinds>>i%2, "xyz"[i:i+1])
				entries = append(entries, roll.Entry{Number: n, Kind: 1 + kinds>>i%2, Bytes: "xyz"[i : i+1]})
			}
			head, records := counts(entries)
			right(t, s, l[2]+1, head, records...)
		}
	}
	for _, l := range [][]int64{
		{1, 1}, {2, 1}, {1, 3}, {1, 0}, {1, 1<<32 + 2}, {5, 5}, {5, 4}, {5, 7}, {5, 261}, {1, 2, 2}, {1, 2, 1}, {1, 2, 4}, {1, 2, 3, 3}, {1, 3, 4}, {2, 2, 3}, {2, 1, 2}, {3, 1, 2},
		{1 << 62, 1<<62 + 1}, {1 << 62, 1}, {1 << 62, 1 << 62}, {1<<62 - 1, 1<<62 - 1, 1 << 62}, {128, 1}, {9, 1, 2, 3}, {1, 2, 3, 1},
	} {
		for kinds := range 1 << len(l) {
			s := ""
			for i, n := range l {
				s += lined(n, 1+kinds>>i%2, "a")
			}
			lost(t, s)
		}
	}
}

// TestP18_2_WhatCounts: with no summary, with one first, in the midst and last, with several.
func TestP18_2_WhatCounts(t *testing.T) {
	a, b, c, d := lined(4, 1, "a"), lined(5, 1, "b"), lined(6, 1, "c"), lined(7, 1, "d")
	p, q, r, s := lined(4, 2, "p"), lined(5, 2, "q"), lined(6, 2, "r"), lined(7, 2, "s")
	right(t, a+b+c+d, 8, "", "a", "b", "c", "d")
	right(t, p+b+c+d, 8, "p", "b", "c", "d")
	right(t, a+q+c+d, 8, "q", "c", "d")
	right(t, a+b+r+d, 8, "r", "d")
	right(t, a+b+c+s, 8, "s")
	right(t, p+q+c+d, 8, "q", "c", "d")
	right(t, p+b+r+d, 8, "r", "d")
	right(t, p+b+c+s, 8, "s")
	right(t, a+q+r+d, 8, "r", "d")
	right(t, p+q+r+s, 8, "s")
	right(t, a, 5, "", "a")
	right(t, p, 5, "p")
	right(t, a+lined(5, 2, "")+c, 7, "", "c")
	right(t, p+lined(5, 2, ""), 6, "")
	right(t, lined(4, 1, "")+lined(5, 1, "")+lined(6, 1, ""), 7, "", "", "", "")
	right(t, p+lined(5, 1, ""), 6, "p", "")
}

// TestP18_2_TornEnd: of each length, behind each row of lines, fast or not, at each first place: it is taken back, and nothing else.
func TestP18_2_TornEnd(t *testing.T) {
	for _, torn := range []string{lined(3, 1, "abc\x00\x01"), lined(3, 2, "xyz"), "\x01\x03\x01\x03\x00", "zzzz\x00", "\x01\x01\x01\x00"} {
		for size := range len(torn) {
			for n, s := range []string{"", lined(1, 1, "a"), lined(1, 1, "a") + lined(2, 2, "\x00")} {
				for cut := range size + 1 {
					x := made(t, 100)
					loose(t, x, "ab"+s+torn[:cut])
					hold(t, x)
					loose(t, x, torn[cut:size])
					if e := x.Shed(2); e != ok {
						t.Fatalf("tape.Shed: %d", e)
					}
					r := opened(t, x)
					fast(t, x, 2, s)
					if r.Next() != int64(n+1) {
						t.Fatalf("Next: %d", r.Next())
					}
					add(t, r, "more", ok)
					fast(t, x, 2, s+lined(int64(n+1), 1, "more"))
				}
			}
		}
	}
}

// TestP18_2_TornEndWithoutAStroke: Back's error, and nothing is taken back; of a tape without one no stroke is asked for.
func TestP18_2_TornEndWithoutAStroke(t *testing.T) {
	for _, s := range []string{"", lined(1, 1, "a"), lined(1, 1, "a") + lined(2, 2, "b")} {
		for _, torn := range []string{"a", "\x01", "\x01\x02\x02abc"} {
			x := written(t, s)
			loose(t, x, torn)
			fuse(t, x, 0)
			closed(t, x, power)
			if x.On() {
				t.Fatalf("the power is on")
			}
			places(t, x, 0, len(s), len(s)+len(torn))
			closed(t, x, power)
			crash(t, x, len(torn))
			fast(t, x, 0, s+torn)
			fuse(t, x, 1)
			r := opened(t, x)
			fast(t, x, 0, s)
			put(t, r, 1, "", power)
			places(t, x, 0, len(s), len(s))
		}
		x := written(t, s)
		fuse(t, x, 0)
		opened(t, x)
		fast(t, x, 0, s)
	}
}

// TestP18_2_OpenOfWhatIsNotFast: lines count, and stay as they are, whether they are fast or not.
func TestP18_2_OpenOfWhatIsNotFast(t *testing.T) {
	x := written(t, lined(1, 1, "a"))
	s := lined(2, 1, "b")
	loose(t, x, s+"torn")
	n := len(lined(1, 1, "a"))
	tells(t, opened(t, x), 3, "", "a", "b")
	places(t, x, 0, n, n+len(s))
	fuse(t, x, 0)
	r := opened(t, x)
	tells(t, r, 3, "", "a", "b")
	places(t, x, 0, n, n+len(s))
	crash(t, x, len(s))
	loose(t, x, lined(3, 1, "c"))
	r = opened(t, x)
	sum(t, r, "all", ok)
	tells(t, r, 5, "all")
	fast(t, x, n+len(s)+len(lined(3, 1, "c")), lined(4, 2, "all"))
}

// TestP18_2_OpenOfALongLine: of as many bytes as an entry may have, and not of one more.
func TestP18_2_OpenOfALongLine(t *testing.T) {
	s := strings.Repeat("z", 1<<22+1)
	x := written(t, lined(1, 1, s[:1<<22])+lined(2, 2, s[1:])+lined(3, 1, s[1:])+"torn")
	tells(t, opened(t, x), 4, s[1:], s[1:])
	lost(t, lined(1, 1, s))
	lost(t, lined(1, 1, strings.Repeat("\x00", 1<<22+1)))
	lost(t, lined(1, 1, "a")+lined(2, 2, s)+lined(3, 1, ""))
}

// TestP18_3_Add: Next, Summary, Records and the tape behind each; all of it is fast.
func TestP18_3_Add(t *testing.T) {
	x := made(t, 5000)
	r := opened(t, x)
	all := ""
	var l []string
	for i, s := range append(each(), "", "\x00\x01\x02", "", "abc", strings.Repeat("\x00", 300)) {
		add(t, r, s, ok)
		l = append(l, s)
		all += lined(int64(i+1), 1, s)
		tells(t, r, int64(i+2), "", l...)
		fast(t, x, 0, all)
	}
	if e := r.Add(nil); e != ok {
		t.Fatalf("Add of nil: %d", e)
	}
	l = append(l, "")
	tells(t, r, int64(len(l)+1), "", l...)
	tells(t, opened(t, x), int64(len(l)+1), "", l...)
}

// TestP18_3_Sum: behind it the tape holds its line alone, which begins where those ahead of it ended.
func TestP18_3_Sum(t *testing.T) {
	x := made(t, 1000)
	r := opened(t, x)
	first, n := 0, int64(1)
	for i, s := range append(each(), "", "\x00\x01\x02", "", "abc", strings.Repeat("\x00", 300)) {
		var l []string
		for k := range i % 4 {
			l = append(l, strings.Repeat(s[:min(1, len(s))], k))
			add(t, r, l[k], ok)
			first += len(lined(n, 1, l[k]))
			n++
		}
		_, b, _ := x.Read()
		old := string(b)
		sum(t, r, s, ok)
		tells(t, r, n+1, s)
		fast(t, x, first, lined(n, 2, s))
		tells(t, opened(t, x), n+1, s)
		if strings.Contains(old, lined(n, 2, s)) {
			t.Fatalf("%q was there", s)
		}
		first += len(lined(n, 2, s))
		n++
	}
	if e := r.Sum(nil); e != ok {
		t.Fatalf("Sum of nil: %d", e)
	}
	tells(t, r, n+1, "")
	fast(t, x, first, lined(n, 2, ""))
}

// TestP18_3_AddBehindSum: records count behind the last summary, of this roll and of one that is opened.
func TestP18_3_AddBehindSum(t *testing.T) {
	x := made(t, 100)
	r := opened(t, x)
	sum(t, r, "p", ok)
	tells(t, r, 2, "p")
	add(t, r, "a", ok)
	add(t, r, "", ok)
	tells(t, r, 4, "p", "a", "")
	sum(t, r, "q", ok)
	tells(t, r, 5, "q")
	add(t, r, "b", ok)
	tells(t, r, 6, "q", "b")
	r = opened(t, x)
	tells(t, r, 6, "q", "b")
	add(t, r, "c", ok)
	tells(t, r, 7, "q", "b", "c")
	sum(t, r, "", ok)
	tells(t, r, 8, "")
	add(t, r, "d", ok)
	tells(t, r, 9, "", "d")
	fast(t, x, len(lined(1, 2, "p")+lined(2, 1, "a")+lined(3, 1, "")+lined(4, 2, "q")+lined(5, 1, "b")+lined(6, 1, "c")), lined(7, 2, "")+lined(8, 1, "d"))
	tells(t, opened(t, x), 9, "", "d")
}

// TestP18_3_GoesOn: of an opened roll of any Numbers, Kinds and first place, which a torn end ended.
func TestP18_3_GoesOn(t *testing.T) {
	for _, n := range []int64{1, 126, 127, 1 << 32, 1<<62 - 2} {
		for kind := 1; kind <= 2; kind++ {
			x := written(t, "ab"+lined(n, kind, "z")+"torn")
			if e := x.Shed(2); e != ok {
				t.Fatalf("tape.Shed: %d", e)
			}
			r := opened(t, x)
			add(t, r, "a", ok)
			s := lined(n, kind, "z") + lined(n+1, 1, "a")
			fast(t, x, 2, s)
			sum(t, r, "b", ok)
			tells(t, r, n+3, "b")
			fast(t, x, 2+len(s), lined(n+2, 2, "b"))
		}
	}
}

// TestP18_3_TheLastNumber: of the greatest one there is a line, and none behind it: ErrArg, ahead of the other errors, and nothing is changed.
func TestP18_3_TheLastNumber(t *testing.T) {
	for kind := 1; kind <= 2; kind++ {
		x := written(t, lined(1<<62-1, 2, "p"))
		r := opened(t, x)
		tells(t, r, 1<<62, "p")
		put(t, r, kind, "a", ok)
		first, _, _ := x.Places()
		_, b, _ := x.Read()
		for _, s := range []string{"", "a", strings.Repeat("a", 2000), strings.Repeat("a", 1<<22+1)} {
			add(t, r, s, arg)
			sum(t, r, s, arg)
		}
		fuse(t, x, 0)
		add(t, r, "a", arg)
		sum(t, r, "a", arg)
		fast(t, x, first, string(b))
		r = opened(t, x)
		add(t, r, "a", arg)
		sum(t, r, "a", arg)
		if kind == 1 {
			tells(t, r, 1<<62+1, "p", "a")
			continue
		}
		tells(t, r, 1<<62+1, "a")
	}
}

// TestP18_3_TooLong: nothing is changed, and one byte less goes; of a small tape too it is ErrLong.
func TestP18_3_TooLong(t *testing.T) {
	for kind := 1; kind <= 2; kind++ {
		for _, c := range []string{"\x00", "a"} {
			b := strings.Repeat(c, 1<<22+1)
			x := made(t, api.MaxDisk)
			r := opened(t, x)
			put(t, r, kind, b, tooLong)
			tells(t, r, 1, "")
			fast(t, x, 0, "")
			put(t, r, kind, b[1:], ok)
			fast(t, x, 0, lined(1, kind, b[1:]))
			put(t, r, kind, b, tooLong)
			if r.Next() != 2 {
				t.Fatalf("Next: %d", r.Next())
			}
			x = made(t, 10)
			r = opened(t, x)
			put(t, r, kind, b, tooLong)
			put(t, r, kind, b[1:], noRoom)
			put(t, r, kind, "a", ok)
		}
	}
}

// TestP18_3_Room: one that is just enough, and one byte too little: nothing is changed, and the next shorter one goes.
func TestP18_3_Room(t *testing.T) {
	for kind := 1; kind <= 2; kind++ {
		for _, ahead := range []string{"", lined(1, 2, "pq") + lined(2, 1, "x")} {
			for many := 1; many < 20; many++ {
				s := strings.Repeat("b", many)
				x := made(t, len(ahead)+len(lined(3, kind, s)))
				if ahead == "" {
					x = made(t, len(lined(1, kind, s)))
				}
				loose(t, x, ahead)
				hold(t, x)
				r := opened(t, x)
				n := r.Next()
				head, l := string(r.Summary()), texts(r)
				for more := 1; more < 5; more++ {
					// The line of a summary is shorter by one byte, since its Kind isn't dressed.
					put(t, r, 1, s+strings.Repeat("c", more), noRoom)
					put(t, r, 2, s+strings.Repeat("c", more+2-kind), noRoom)
					tells(t, r, n, head, l...)
					fast(t, x, 0, ahead)
				}
				put(t, r, kind, s, ok)
				if kind == 1 {
					fast(t, x, 0, ahead+lined(n, 1, s))
					tells(t, r, n+1, head, append(l, s)...)
					put(t, r, 1, "", noRoom)
					put(t, r, 2, "", noRoom)
					continue
				}
				fast(t, x, len(ahead), lined(n, 2, s))
				tells(t, r, n+1, s)
			}
		}
	}
}

// TestP18_3_NoRoomThenLess: of each byte too many ErrRoom, and the next shorter one goes.
func TestP18_3_NoRoomThenLess(t *testing.T) {
	for room := range 30 {
		for kind := 1; kind <= 2; kind++ {
			x := made(t, room)
			r := opened(t, x)
			size := room + 5
			for ; size >= 0 && len(lined(1, kind, strings.Repeat("z", size))) > room; size-- {
				put(t, r, kind, strings.Repeat("z", size), noRoom)
				tells(t, r, 1, "")
				fast(t, x, 0, "")
			}
			if size >= 0 {
				put(t, r, kind, strings.Repeat("z", size), ok)
				fast(t, x, 0, lined(1, kind, strings.Repeat("z", size)))
			}
		}
	}
}

// TestP18_3_RoomForBoth: a summary needs room beside what it stands for.
func TestP18_3_RoomForBoth(t *testing.T) {
	x := made(t, 20)
	r := opened(t, x)
	add(t, r, "abcdefgh", ok)
	sum(t, r, "12345", noRoom)
	sum(t, r, "1234", ok)
	fast(t, x, 13, lined(2, 2, "1234"))
	sum(t, r, "123456789", ok)
	sum(t, r, "", ok)
	add(t, r, strings.Repeat("x", 12), ok)
	sum(t, r, "", noRoom)
	tells(t, r, 6, "", strings.Repeat("x", 12))
	add(t, r, "", noRoom)
	tells(t, opened(t, x), 6, "", strings.Repeat("x", 12))
}

// TestP18_3_Fuse: of each number of strokes over each entry: the answer, what the roll tells, where the tape's places are.
func TestP18_3_Fuse(t *testing.T) {
	ahead := lined(1, 2, "p") + lined(2, 1, "x")
	for kind := 1; kind <= 2; kind++ {
		for _, s := range []string{"", "a", "\x00\x01\x02", "abcdef"} {
			l := lined(3, kind, s)
			for strokes := range len(l) + 5 {
				x := written(t, ahead)
				r := opened(t, x)
				fuse(t, x, strokes)
				switch n := len(ahead); {
				case strokes <= len(l):
					put(t, r, kind, s, power)
					tells(t, r, 3, "p", "x")
					places(t, x, 0, n, n+strokes)
				case kind == 1:
					put(t, r, kind, s, ok)
					tells(t, r, 4, "p", "x", s)
					places(t, x, 0, n+len(l), n+len(l))
				case strokes == len(l)+1:
					put(t, r, kind, s, power)
					tells(t, r, 4, s)
					places(t, x, 0, n+len(l), n+len(l))
				default:
					put(t, r, kind, s, ok)
					tells(t, r, 4, s)
					places(t, x, n, n+len(l), n+len(l))
				}
				if whole := strokes >= len(l)+kind; x.On() != whole {
					t.Fatalf("of %d strokes: %t", strokes, x.On())
				}
			}
		}
	}
}

// TestP18_3_SumWithoutAShed: the answer is ErrPower, the summary counts all the same, and the roll is broken; a roll that is opened has it too.
func TestP18_3_SumWithoutAShed(t *testing.T) {
	x := made(t, 100)
	r := opened(t, x)
	add(t, r, "a", ok)
	add(t, r, "b", ok)
	s := lined(1, 1, "a") + lined(2, 1, "b") + lined(3, 2, "all")
	fuse(t, x, len(lined(3, 2, "all"))+1)
	sum(t, r, "all", power)
	broken(t, r)
	tells(t, r, 4, "all")
	places(t, x, 0, len(s), len(s))
	crash(t, x, 0)
	fast(t, x, 0, s)
	broken(t, r)
	tells(t, r, 4, "all")
	q := opened(t, x)
	tells(t, q, 4, "all")
	add(t, q, "c", ok)
	fast(t, x, 0, s+lined(4, 1, "c"))
	sum(t, q, "more", ok)
	fast(t, x, len(s+lined(4, 1, "c")), lined(5, 2, "more"))
	tells(t, q, 6, "more")
	broken(t, r)
	tells(t, r, 4, "all")
}

// TestP18_3_Broken: it tells what it told ahead, and all further calls answer ErrPower, also behind a crash, and write nothing.
func TestP18_3_Broken(t *testing.T) {
	for kind := 1; kind <= 2; kind++ {
		for strokes := range len(lined(3, kind, "abc")) + 1 {
			x := made(t, 100)
			r := opened(t, x)
			sum(t, r, "p", ok)
			add(t, r, "x", ok)
			first, _, end := x.Places()
			fuse(t, x, strokes)
			put(t, r, kind, "abc", power)
			for range 2 {
				broken(t, r)
				tells(t, r, 3, "p", "x")
				places(t, x, first, end, end+strokes)
			}
			fuse(t, x, 1000)
			broken(t, r)
			crash(t, x, 0)
			for range 2 {
				broken(t, r)
				tells(t, r, 3, "p", "x")
				fast(t, x, first, lined(1, 2, "p")+lined(2, 1, "x"))
			}
		}
	}
}

// TestP18_3_BrokenStays: though another roll was opened behind the crash, and goes on.
func TestP18_3_BrokenStays(t *testing.T) {
	x := made(t, 100)
	r := opened(t, x)
	add(t, r, "a", ok)
	fuse(t, x, 2)
	add(t, r, "b", power)
	crash(t, x, 1)
	q := opened(t, x)
	add(t, q, "c", ok)
	broken(t, r)
	sum(t, q, "d", ok)
	broken(t, r)
	tells(t, r, 2, "", "a")
	tells(t, q, 4, "d")
	fast(t, x, len(lined(1, 1, "a")+lined(2, 1, "c")), lined(3, 2, "d"))
}

// TestP18_3_PowerOffAhead: ErrPower, and the roll is broken, also behind a crash.
func TestP18_3_PowerOffAhead(t *testing.T) {
	for kind := 1; kind <= 2; kind++ {
		for _, s := range []string{"", "a", strings.Repeat("z", 200)} {
			x := made(t, 50)
			r := opened(t, x)
			sum(t, r, "p", ok)
			add(t, r, "x", ok)
			all := lined(1, 2, "p") + lined(2, 1, "x")
			out(t, x)
			put(t, r, kind, s, power)
			broken(t, r)
			places(t, x, 0, len(all), len(all))
			crash(t, x, 0)
			broken(t, r)
			tells(t, r, 3, "p", "x")
			fast(t, x, 0, all)
			q := opened(t, x)
			put(t, q, kind, "b", ok)
			broken(t, r)
		}
	}
}

// TestP18_3_PowerThatWasOff: a roll that wasn't asked meanwhile isn't broken.
func TestP18_3_PowerThatWasOff(t *testing.T) {
	x := made(t, 50)
	r := opened(t, x)
	add(t, r, "a", ok)
	out(t, x)
	tells(t, r, 2, "", "a")
	crash(t, x, 3)
	add(t, r, "b", ok)
	tells(t, r, 3, "", "a", "b")
	tells(t, opened(t, x), 3, "", "a", "b")
}

// TestP18_3_WhatBreaksNot: behind ErrRoom and ErrLong it goes on, however often.
func TestP18_3_WhatBreaksNot(t *testing.T) {
	x := made(t, 30)
	r := opened(t, x)
	long := strings.Repeat("a", 1<<22+1)
	for i := range 4 {
		for range 3 {
			add(t, r, strings.Repeat("a", 40), noRoom)
			sum(t, r, strings.Repeat("a", 40), noRoom)
			add(t, r, long, tooLong)
			sum(t, r, long, tooLong)
		}
		put(t, r, 1+i%2, "ab", ok)
		if r.Next() != int64(i+2) {
			t.Fatalf("Next: %d", r.Next())
		}
	}
}

// TestP18_3_LineAheadOfTheTape: Line's error is told ahead of ErrRoom and of ErrPower of the tape, and then nothing is changed; a broken roll tells ErrPower ahead of it.
func TestP18_3_LineAheadOfTheTape(t *testing.T) {
	long := strings.Repeat("a", 1<<22+1)
	x := made(t, 20)
	r := opened(t, x)
	add(t, r, "a", ok)
	out(t, x)
	add(t, r, long, tooLong)
	sum(t, r, long, tooLong)
	crash(t, x, 0)
	add(t, r, "b", ok)
	tells(t, r, 3, "", "a", "b")
	out(t, x)
	add(t, r, strings.Repeat("a", 100), power)
	add(t, r, long, power)
	sum(t, r, long, power)
	crash(t, x, 0)
	add(t, r, long, power)
	sum(t, r, long, power)
	tells(t, r, 3, "", "a", "b")
	x = written(t, lined(1<<62, 1, "a"))
	r = opened(t, x)
	out(t, x)
	add(t, r, "a", arg)
	sum(t, r, "a", arg)
}

// TestP18_3_FuseOfErrors: calls with an error ask for no stroke.
func TestP18_3_FuseOfErrors(t *testing.T) {
	x := made(t, 20)
	r := opened(t, x)
	add(t, r, "a", ok)
	fuse(t, x, len(lined(2, 1, "b"))+1)
	for range 3 {
		add(t, r, strings.Repeat("a", 30), noRoom)
		sum(t, r, strings.Repeat("a", 30), noRoom)
		sum(t, r, strings.Repeat("a", 1<<22+1), tooLong)
	}
	add(t, r, "b", ok)
	tells(t, r, 3, "", "a", "b")
	add(t, r, "c", power)
}

// TestP18_4_Nil: of no roll ErrNil, nothing and 0.
func TestP18_4_Nil(t *testing.T) {
	var r *roll.Roll
	for _, s := range []string{"", "a", strings.Repeat("a", 1<<22+1)} {
		add(t, r, s, none)
		sum(t, r, s, none)
	}
	if r.Add(nil) != none || r.Sum(nil) != none {
		t.Errorf("nil is put")
	}
	tells(t, r, 0, "")
}

// TestP18_5_PowerAndCrash: wherever the power goes in each entry behind each roll, and whatever a crash keeps: what counted ahead, and the entry wholly, if its mark was kept, and else not at all; and the roll goes on.
func TestP18_5_PowerAndCrash(t *testing.T) {
	for _, ahead := range [][]roll.Entry{nil, {{Kind: 1, Bytes: "x"}}, {{Kind: 2, Bytes: "p"}}, {{Kind: 1, Bytes: "\x00"}, {Kind: 2, Bytes: "q"}, {Kind: 1, Bytes: ""}}, {{Kind: 2, Bytes: "p"}, {Kind: 1, Bytes: "\x01"}, {Kind: 1, Bytes: "y"}}} {
		for kind := 1; kind <= 2; kind++ {
			for _, s := range []string{"", "a", "\x00\x01", "abc"} {
				for strokes := range len(lined(4, kind, s)) + 4 {
					for keep := -2; keep < len(lined(4, kind, s))+3; keep++ {
						underWay(t, ahead, kind, s, strokes, keep)
					}
				}
			}
		}
	}
}

// underWay: a roll with entries, one more that has so many strokes, and a crash that keeps so much.
func underWay(t *testing.T, ahead []roll.Entry, kind int, s string, strokes, keep int) {
	t.Helper()
	x := made(t, 100)
	r := opened(t, x)
	for _, y := range ahead {
		put(t, r, y.Kind, y.Bytes, ok)
	}
	n, size := r.Next(), len(lined(r.Next(), kind, s))
	fuse(t, x, strokes)
	want := power
	if strokes >= size+kind {
		want = ok
	}
	put(t, r, kind, s, want)
	crash(t, x, keep)
	written := min(strokes, size)
	whole := strokes > size || uint64(keep)%uint64(written+1) == uint64(size)
	if whole {
		ahead = append(slices.Clone(ahead), roll.Entry{Kind: kind, Bytes: s})
		n++
	}
	head, records := counts(ahead)
	r = opened(t, x)
	tells(t, r, n, head, records...)
	add(t, r, "more", ok)
	tells(t, r, n+1, head, append(records, "more")...)
	tells(t, opened(t, x), n+1, head, append(records, "more")...)
}

// TestP18_5_CrashBetween: of a roll that nothing is under way in a crash takes nothing, whatever it keeps.
func TestP18_5_CrashBetween(t *testing.T) {
	for keep := -3; keep < 30; keep++ {
		x := made(t, 100)
		r := opened(t, x)
		add(t, r, "a", ok)
		crash(t, x, keep)
		tells(t, opened(t, x), 2, "", "a")
		sum(t, r, "p", ok)
		crash(t, x, keep)
		tells(t, opened(t, x), 3, "p")
		add(t, r, "\x00\x01", ok)
		crash(t, x, keep)
		tells(t, opened(t, x), 4, "p", "\x00\x01")
		tells(t, r, 4, "p", "\x00\x01")
	}
}

// TestP18_5_AgainAndAgain: each entry is tried with one stroke more, with a crash and a roll opened behind each, till it stands.
func TestP18_5_AgainAndAgain(t *testing.T) {
	x := twins(t, 200)
	for i := range 12 {
		for strokes := range 14 {
			x.fuse(t, strokes)
			if i%3 == 2 {
				x.sum(t, "all\x00")
			} else {
				x.add(t, "rec\x01")
			}
			x.crash(t, strokes+i)
			x.open(t)
		}
	}
	if x.roll.Next() < 40 {
		t.Errorf("Next: %d", x.roll.Next())
	}
}

// TestP18_AllShortRows: all rows of five steps, held against a second reckoning.
func TestP18_AllShortRows(t *testing.T) {
	steps := []func(x *both){
		func(x *both) { x.add(t, "") },
		func(x *both) { x.add(t, "\x00a") },
		func(x *both) { x.sum(t, "\x01") },
		func(x *both) { x.fuse(t, 2) },
		func(x *both) { x.fuse(t, 6) },
		func(x *both) { x.crash(t, 2) },
		func(x *both) { x.crash(t, 5) },
		func(x *both) { x.open(t) },
	}
	const long = 5
	all := 1
	for range long {
		all *= len(steps)
	}
	for row := range all {
		x := twins(t, 20)
		for range long {
			steps[row%len(steps)](x)
			row /= len(steps)
		}
	}
}

// TestP18_DrawnRows: long ones, with fuses, crashes, torn ends and rolls opened amid them, held against a second reckoning.
func TestP18_DrawnRows(t *testing.T) {
	reached := int64(0)
	for seed := range uint64(40) {
		d := &dice{seed}
		x := twins(t, []int{15, 40, 150, 1000}[seed%4])
		for range 300 {
			drawn(t, d, x)
		}
		reached = max(reached, x.roll.Next())
	}
	if reached < 60 {
		t.Errorf("no Next beyond %d", reached)
	}
}

// drawn: one step of a row.
func drawn(t *testing.T, d *dice, x *both) {
	t.Helper()
	switch d.below(16) {
	case 0, 1, 2, 3, 4, 5, 6:
		x.add(t, string(d.row(d.below(12))))
	case 7, 8, 9:
		x.sum(t, string(d.row(d.below(12))))
	case 10:
		x.fuse(t, d.below(60))
	case 11:
		x.crash(t, d.below(60)-20)
	case 12:
		x.open(t)
	case 13:
		x.crash(t, d.below(60)-20)
		x.open(t)
	case 14:
		// A line that isn't fast counts for the roll that is opened.
		s := lined(x.roll.Next(), 1+d.below(2), string(d.row(d.below(6))))
		if x.shelf.left >= 0 || x.tape.Write([]byte(s)) != ok {
			return
		}
		x.shelf.writes(s)
		x.open(t)
	default:
		// A torn end, which a roll that is opened takes back.
		torn := string(d.row(d.below(6)))
		if strings.Contains(torn, "\x00") || x.shelf.left >= 0 || x.tape.Write([]byte(torn)) != ok {
			return
		}
		x.shelf.writes(torn)
		x.crash(t, len(torn))
		x.open(t)
	}
}

// texts: the records of a roll.
func texts(r *roll.Roll) []string {
	var l []string
	for _, b := range r.Records() {
		l = append(l, string(b))
	}
	return l
}

// broken: does each further call answer ErrPower?
func broken(t *testing.T, r *roll.Roll) {
	t.Helper()
	for _, s := range []string{"", "a", strings.Repeat("z", 300)} {
		add(t, r, s, power)
		sum(t, r, s, power)
	}
	if r.Add(nil) != power || r.Sum(nil) != power {
		t.Fatalf("nil is put")
	}
}

// TestR1_AllCallsEnd: of no objects, of bytes and numbers of any kind.
func TestR1_AllCallsEnd(t *testing.T) {
	for _, s := range append(each(), "", "\xff\xfe", strings.Repeat("\x01", 100), strings.Repeat("\x80", 100)) {
		roll.Dress(s)
		roll.Strip(s)
		roll.Unline(s)
		for _, n := range append(ends(), 0, 1, 2) {
			roll.Line(roll.Entry{Number: int64(n), Kind: n, Bytes: s})
			roll.Line(roll.Entry{Number: 1, Kind: n, Bytes: s})
		}
		x := written(t, s)
		if r, e := roll.Open(x); (r == nil) != (e != ok) {
			t.Fatalf("Open of %q: %v, %d", s, r, e)
		}
	}
}

// TestR1_OpenOfDrawnBytes: what counts, or ErrLost, as the second reckoning tells.
func TestR1_OpenOfDrawnBytes(t *testing.T) {
	d := &dice{5}
	for range 3000 {
		s := ""
		for n := int64(1 + d.below(3)); d.below(4) > 0; n++ {
			s += lined(n, 1+d.below(2), string(d.row(d.below(6))))
		}
		b := append([]byte(s), d.row(d.below(4))...)
		if len(b) > 0 && d.below(2) == 0 {
			b[d.below(len(b))] = d.row(1)[0]
		}
		x := written(t, string(b))
		y := &both{x, nil, &shelf{room: 2000, fast: string(b), left: -1, next: 0}}
		y.open(t)
	}
}

// TestR2_NothingChangesWithAnError: of Open, Add and Sum; and beside it nothing is told.
func TestR2_NothingChangesWithAnError(t *testing.T) {
	x := made(t, 30)
	r := opened(t, x)
	sum(t, r, "p", ok)
	add(t, r, "a", ok)
	all := lined(1, 2, "p") + lined(2, 1, "a")
	for range 3 {
		add(t, r, strings.Repeat("a", 30), noRoom)
		sum(t, r, strings.Repeat("a", 30), noRoom)
		add(t, r, strings.Repeat("a", 1<<22+1), tooLong)
		sum(t, r, strings.Repeat("a", 1<<22+1), tooLong)
		tells(t, r, 3, "p", "a")
		fast(t, x, 0, all)
	}
	loose(t, x, "\x00torn")
	for range 3 {
		closed(t, x, gone)
		holds(t, x, 0, all+"\x00torn")
		places(t, x, 0, len(all), len(all)+5)
	}
}

// TestR3_NilAndEmpty: bytes that are nil are bytes of none.
func TestR3_NilAndEmpty(t *testing.T) {
	for _, b := range [][]byte{nil, {}} {
		x := made(t, 30)
		r := opened(t, x)
		if r.Add(b) != ok || r.Sum(b) != ok || r.Add(b) != ok {
			t.Fatalf("nothing isn't put")
		}
		tells(t, r, 4, "", "")
		fast(t, x, len(lined(1, 1, "")), lined(2, 2, "")+lined(3, 1, ""))
		tells(t, opened(t, x), 4, "", "")
	}
}

// TestR4_HandedInStays: bytes, also those behind their end, where a slice has room; it may be changed behind the call.
func TestR4_HandedInStays(t *testing.T) {
	x := made(t, 100)
	r := opened(t, x)
	b := []byte("\x00\x01\x02abc")
	if r.Add(b[:3]) != ok || r.Sum(b[:4]) != ok || r.Add(b[1:2]) != ok || string(b) != "\x00\x01\x02abc" {
		t.Fatalf("it is %q", b)
	}
	if r.Add(make([]byte, 200)) != noRoom {
		t.Fatalf("there is room")
	}
	for i := range b {
		b[i] = 'z'
	}
	tells(t, r, 4, "\x00\x01\x02a", "\x01")
	fast(t, x, len(lined(1, 1, "\x00\x01\x02")), lined(2, 2, "\x00\x01\x02a")+lined(3, 1, "\x01"))
	tells(t, opened(t, x), 4, "\x00\x01\x02a", "\x01")
}

// TestR4_ToldIsTheCallers: what is written to it, or behind its end, changes nothing of the roll, and nothing else that was told.
func TestR4_ToldIsTheCallers(t *testing.T) {
	x := made(t, 100)
	r := opened(t, x)
	sum(t, r, "sum", ok)
	add(t, r, "abc", ok)
	add(t, r, "def", ok)
	for _, r := range []*roll.Roll{r, opened(t, x)} {
		head, l, m := r.Summary(), r.Records(), r.Records()
		copy(head, "zzz")
		_ = append(head[:1], 'y', 'y', 'y')
		for i := range l[0] {
			l[0][i] = 'z'
		}
		_ = append(l[0], "yyyyyyyyyyyyyyyyyyyy"...)
		if string(l[1]) != "def" || string(m[0]) != "abc" || string(m[1]) != "def" {
			t.Fatalf("Records: %q, %q", l, m)
		}
		l[1] = nil
		_ = append(m[:1], nil, nil)
		tells(t, r, 4, "sum", "abc", "def")
		tells(t, opened(t, x), 4, "sum", "abc", "def")
	}
}

// TestR4_WhatWasToldStays: whatever is put behind it, and whatever goes.
func TestR4_WhatWasToldStays(t *testing.T) {
	x := made(t, 100)
	r := opened(t, x)
	sum(t, r, "sum", ok)
	add(t, r, "abc", ok)
	head, l := r.Summary(), r.Records()
	add(t, r, "def", ok)
	sum(t, r, "xyz", ok)
	add(t, r, "uvw", ok)
	fuse(t, x, 2)
	add(t, r, "uvw", power)
	crash(t, x, 0)
	if string(head) != "sum" || len(l) != 1 || string(l[0]) != "abc" {
		t.Fatalf("%q, %q", head, l)
	}
}

// TestR4_ObjectsAreSeen: what a roll puts is seen by who holds its tape; each roll has what it knows for itself.
func TestR4_ObjectsAreSeen(t *testing.T) {
	x, y := made(t, 100), made(t, 100)
	r, q := opened(t, x), opened(t, y)
	add(t, r, "a", ok)
	tells(t, q, 1, "")
	sum(t, q, "b", ok)
	tells(t, r, 2, "", "a")
	fast(t, x, 0, lined(1, 1, "a"))
	fast(t, y, 0, lined(1, 2, "b"))
}

// TestR6_TheSameAgain: the same rows of calls tell the same.
func TestR6_TheSameAgain(t *testing.T) {
	for seed := range uint64(20) {
		want := calls(made(t, 100), &dice{seed}, 300)
		for range 3 {
			if got := calls(made(t, 100), &dice{seed}, 300); got != want {
				t.Fatalf("of %d: unlike", seed)
			}
		}
	}
}

// TestR6_SideBySide: rolls of tapes of their own tell the same, whatever is done with others.
func TestR6_SideBySide(t *testing.T) {
	const many = 8
	var want, got [many]string
	var tapes [many]*tape.Tape
	for i := range many {
		want[i] = calls(made(t, 100), &dice{uint64(i)}, 500)
		tapes[i] = made(t, 100)
	}
	var group sync.WaitGroup
	for i := range many {
		group.Add(1)
		go func() {
			defer group.Done()
			got[i] = calls(tapes[i], &dice{uint64(i)}, 500)
		}()
	}
	group.Wait()
	if got != want {
		t.Errorf("unlike")
	}
}
