package wire_test

import (
	"bytes"
	"encoding/binary"
	"math"
	"slices"
	"strings"
	"testing"

	"hallmoot/api"
	"hallmoot/wire"
)

// numbers: some of which all may be written, with both ends of each count of bytes.
func numbers() []int64 {
	l := []int64{0, 1, 2, 9, 63, 64, 65, 126, 300, 1000, 65535, 65536, 65537, 1 << 20, 1<<31 - 1, 1 << 31, 1 << 32, 1<<53 + 1, api.MaxInt - 1, api.MaxInt}
	for width := 7; width < 62; width += 7 {
		end := int64(1) << width
		l = append(l, end-1, end, end+1, end/2, end*2-1)
	}
	for n := int64(1); n < api.MaxInt/3; n = n*3 + 1 {
		l = append(l, n)
	}
	return l
}

// texts: some of which all may be written.
func texts() []string {
	l := []string{"", "a", "ab", "\x00", "\x00\x00", "\x80", "\xff\xfe", "aéb", "\u20ac\U0001F600", "\x02ab"}
	for _, size := range []int{126, 127, 128, 129, 255, 256, 16383, 16384, 16385, api.MaxMsg - 1, api.MaxMsg} {
		l = append(l, strings.Repeat("\xc3", size), strings.Repeat("x", size-1)+"y")
	}
	return l
}

// pieces: all lists of up to four of these bytes, which end a number or don't, behind some that make long numbers and texts.
func pieces() []string {
	l := []string{""}
	short := []string{"\x00", "\x01", "\x02", "\x40", "\x41", "\x7f", "\x80", "\x81", "\xff"}
	for from, round := 0, 0; round < 4; round++ {
		to := len(l)
		for _, s := range l[from:to] {
			for _, c := range short {
				l = append(l, s+c)
			}
		}
		from = to
	}
	ahead := []string{strings.Repeat("\x80", 5), strings.Repeat("\x80", 7), strings.Repeat("\xff", 7), strings.Repeat("\x80", 9), strings.Repeat("\xff", 12), "\x80\x80\x04", "\x81\x80\x04"}
	for _, s := range slices.Clone(l) {
		for _, a := range ahead {
			l = append(l, a+s)
		}
	}
	return l
}

// model: a second reckoning of a reader, which keeps a place and looks at whole numbers.
type model struct {
	all    string
	at     int
	failed api.Errno
}

// fail: as Fail.
func (m *model) fail(e api.Errno) {
	if m.failed == api.OK {
		m.failed = e
	}
}

// num: as Num, by the library's numbers of this form.
func (m *model) num() int64 {
	if m.failed != api.OK {
		return 0
	}
	rest := m.all[m.at:]
	size := strings.IndexFunc(rest, func(c rune) bool { return c < 128 }) + 1
	// All bytes from 128 on come as runes that aren't below 128, of whatever width: the first smaller one ends the number.
	switch {
	case size == 0 && len(rest) < 10:
		m.fail(api.ErrCut)
		return 0
	case size == 0 || size > 9:
		m.fail(api.ErrCode)
		return 0
	}
	n, _ := binary.Uvarint([]byte(rest[:size]))
	if n > 1<<62 || string(binary.AppendUvarint(nil, n)) != rest[:size] {
		m.fail(api.ErrCode)
		return 0
	}
	m.at += size
	return int64(n)
}

// most: as Most.
func (m *model) most(most int64) int64 {
	n := m.num()
	if m.failed == api.OK && n > most {
		m.fail(api.ErrMany)
	}
	if m.failed != api.OK {
		return 0
	}
	return n
}

// text: as Text.
func (m *model) text() string {
	size := m.num()
	switch {
	case m.failed != api.OK:
		return ""
	case size > 65536:
		m.fail(api.ErrMany)
		return ""
	case size > int64(len(m.all)-m.at):
		m.fail(api.ErrCut)
		return ""
	}
	m.at += int(size)
	return m.all[m.at-int(size) : m.at]
}

// rest: as Rest.
func (m *model) rest() int {
	if m.failed != api.OK {
		return 0
	}
	return len(m.all) - m.at
}

// done: as Done.
func (m *model) done() api.Errno {
	if m.rest() > 0 {
		return api.ErrTail
	}
	return m.failed
}

// told: what a reader and the model answer to one call.
type told struct {
	n    int64
	s    string
	rest int
	done api.Errno
}

// call: the k-th of some calls, to both; two of them make an error.
func call(r *wire.Reader, m *model, k int) (told, told) {
	var a, b told
	switch k {
	case 0:
		a.n, b.n = r.Num(), m.num()
	case 1:
		a.n, b.n = r.Most(1), m.most(1)
	case 2:
		a.s, b.s = r.Text(), m.text()
	case 3:
		r.Fail(api.ErrTx)
		m.fail(api.ErrTx)
	case 4:
		r.Fail(api.OK)
	case 5:
		a.n, b.n = r.Most(-1), m.most(-1)
	}
	a.rest, b.rest = r.Rest(), m.rest()
	a.done, b.done = r.Done(), m.done()
	return a, b
}

// broken: is a reader behind an error as it must be, whatever it is asked?
func broken(r *wire.Reader, e api.Errno) bool {
	calm := r.Num() == 0 && r.Most(-1) == 0 && r.Most(math.MaxInt64) == 0 && r.Text() == "" && r.Rest() == 0
	r.Fail(api.OK)
	r.Fail(e + 1)
	return calm && r.Num() == 0 && r.Text() == "" && r.Rest() == 0 && r.Done() == e && r.Done() == e
}

func TestP3_1_Num(t *testing.T) {
	cases := []struct {
		n    int64
		want string
	}{
		{0, "\x00"},
		{1, "\x01"},
		{9, "\x09"},
		{127, "\x7f"},
		{128, "\x80\x01"},
		{129, "\x81\x01"},
		{255, "\xff\x01"},
		{256, "\x80\x02"},
		{300, "\xac\x02"},
		{16383, "\xff\x7f"},
		{16384, "\x80\x80\x01"},
		{16385, "\x81\x80\x01"},
		{1<<56 - 1, "\xff\xff\xff\xff\xff\xff\xff\x7f"},
		{1 << 56, "\x80\x80\x80\x80\x80\x80\x80\x80\x01"},
		{api.MaxInt - 1, "\xff\xff\xff\xff\xff\xff\xff\xff\x3f"},
		{api.MaxInt, "\x80\x80\x80\x80\x80\x80\x80\x80\x40"},
	}
	for _, c := range cases {
		for _, ahead := range []string{"", "x", "\x00", "\x80", "\xff\xff", strings.Repeat("y", 99)} {
			if b, e := wire.Num([]byte(ahead), c.n); string(b) != ahead+c.want || e != api.OK {
				t.Errorf("Num(%q, %d): %q, %d, not %q", ahead, c.n, b, e, ahead+c.want)
			}
		}
		if b, e := wire.Num(nil, c.n); string(b) != c.want || e != api.OK {
			t.Errorf("Num(nil, %d): %q, %d, not %q", c.n, b, e, c.want)
		}
	}
}

func TestP3_1_NumByASecondReckoning(t *testing.T) {
	l := numbers()
	for n := range int64(1 << 18) {
		l = append(l, n)
	}
	for _, n := range l {
		if b, e := wire.Num([]byte{7}, n); !bytes.Equal(b, binary.AppendUvarint([]byte{7}, uint64(n))) || e != api.OK {
			t.Errorf("Num(7, %d): %v, %d", n, b, e)
		}
	}
}

func TestP3_1_NumOfOthers(t *testing.T) {
	for _, n := range []int64{-1, -2, -127, -128, -api.MaxInt, math.MinInt64, math.MinInt64 + 1, api.MaxInt + 1, api.MaxInt + 2, math.MaxInt64 - 1, math.MaxInt64} {
		for _, ahead := range [][]byte{nil, {}, {1}, make([]byte, 3, 99)} {
			if b, e := wire.Num(ahead, n); len(b) != 0 || e != api.ErrOver {
				t.Errorf("Num(%v, %d): %v, %d", ahead, n, b, e)
			}
		}
	}
}

func TestP3_1_Text(t *testing.T) {
	cases := []struct{ s, want string }{
		{"", "\x00"},
		{"a", "\x01a"},
		{"ab", "\x02ab"},
		{"\x00", "\x01\x00"},
		{"\xff\x80", "\x02\xff\x80"},
		{"é", "\x02\xc3\xa9"},
		{strings.Repeat("a", 127), "\x7f" + strings.Repeat("a", 127)},
		{strings.Repeat("a", 128), "\x80\x01" + strings.Repeat("a", 128)},
		{strings.Repeat("é", 64), "\x80\x01" + strings.Repeat("é", 64)},
		{strings.Repeat("a", 16383), "\xff\x7f" + strings.Repeat("a", 16383)},
		{strings.Repeat("a", 16384), "\x80\x80\x01" + strings.Repeat("a", 16384)},
		{strings.Repeat("a", 65535), "\xff\xff\x03" + strings.Repeat("a", 65535)},
		{strings.Repeat("\xff", 65536), "\x80\x80\x04" + strings.Repeat("\xff", 65536)},
	}
	for _, c := range cases {
		for _, ahead := range []string{"", "x", "\x80\x00", strings.Repeat("y", 1<<17)} {
			if b, e := wire.Text([]byte(ahead), c.s); string(b) != ahead+c.want || e != api.OK {
				t.Errorf("Text(%.20q, %.20q): %.40q, %d", ahead, c.s, b, e)
			}
		}
		if b, e := wire.Text(nil, c.s); string(b) != c.want || e != api.OK {
			t.Errorf("Text(nil, %.20q): %.40q, %d", c.s, b, e)
		}
	}
}

func TestP3_1_TextOfOthers(t *testing.T) {
	for _, s := range []string{strings.Repeat("a", 65537), strings.Repeat("\xff", 65538), strings.Repeat("é", 32769), strings.Repeat("a", 1<<20)} {
		for _, ahead := range [][]byte{nil, {}, {1}, make([]byte, 3, 1<<21)} {
			if b, e := wire.Text(ahead, s); len(b) != 0 || e != api.ErrLong {
				t.Errorf("Text(%v, of %d bytes): %d bytes, %d", ahead, len(s), len(b), e)
			}
		}
	}
}

func TestP3_1_Nums(t *testing.T) {
	cases := []struct {
		l    []int64
		want string
	}{
		{nil, ""},
		{[]int64{}, ""},
		{[]int64{0}, "\x00"},
		{[]int64{0, 0, 0}, "\x00\x00\x00"},
		{[]int64{127, 128, 300}, "\x7f\x80\x01\xac\x02"},
		{[]int64{16383, 16384}, "\xff\x7f\x80\x80\x01"},
		{[]int64{api.MaxInt, 0, api.MaxInt}, "\x80\x80\x80\x80\x80\x80\x80\x80\x40\x00\x80\x80\x80\x80\x80\x80\x80\x80\x40"},
		{[]int64{2, 1, 3}, "\x02\x01\x03"},
	}
	for _, c := range cases {
		if b, e := wire.Nums(c.l...); string(b) != c.want || e != api.OK {
			t.Errorf("Nums(%v): %q, %d, not %q", c.l, b, e, c.want)
		}
	}
	if b, e := wire.Nums(); len(b) != 0 || e != api.OK {
		t.Errorf("Nums(): %q, %d", b, e)
	}
}

func TestP3_1_NumsOfOthers(t *testing.T) {
	cases := [][]int64{
		{-1},
		{api.MaxInt + 1},
		{math.MinInt64},
		{math.MaxInt64},
		{1, -1},
		{-1, 1},
		{1, 2, api.MaxInt + 1},
		{-1, -2},
		{1, -1, api.MaxInt + 1, 2},
		{api.MaxInt + 1, 1, -1},
		{math.MinInt64, math.MaxInt64},
	}
	for _, l := range cases {
		if b, e := wire.Nums(l...); len(b) != 0 || e != api.ErrOver {
			t.Errorf("Nums(%v): %q, %d", l, b, e)
		}
	}
}

func TestP3_1_NumsAreNumOfEach(t *testing.T) {
	var l []int64
	var want []byte
	for range 40 {
		for _, n := range numbers() {
			l = append(l, n)
			want = binary.AppendUvarint(want, uint64(n))
		}
	}
	kept := slices.Clone(l)
	if b, e := wire.Nums(l...); !bytes.Equal(b, want) || e != api.OK {
		t.Errorf("Nums of %d numbers: %d bytes, %d", len(l), len(b), e)
	}
	if !slices.Equal(l, kept) {
		t.Errorf("Nums: changed what it was given")
	}
}

// ways: what writes behind bytes.
func ways() map[string]func(b []byte) ([]byte, api.Errno) {
	return map[string]func(b []byte) ([]byte, api.Errno){
		"Num 0":      func(b []byte) ([]byte, api.Errno) { return wire.Num(b, 0) },
		"Num 300":    func(b []byte) ([]byte, api.Errno) { return wire.Num(b, 300) },
		"Num MaxInt": func(b []byte) ([]byte, api.Errno) { return wire.Num(b, api.MaxInt) },
		"Text":       func(b []byte) ([]byte, api.Errno) { return wire.Text(b, "") },
		"Text abc":   func(b []byte) ([]byte, api.Errno) { return wire.Text(b, "abc") },
		"Num -1":     func(b []byte) ([]byte, api.Errno) { return wire.Num(b, -1) },
		"Text long":  func(b []byte) ([]byte, api.Errno) { return wire.Text(b, strings.Repeat("a", 65537)) },
	}
}

func TestP3_1_NewMemory(t *testing.T) {
	for name, way := range ways() {
		for _, size := range []int{0, 1, 5, 64} {
			// The bytes that are handed in have room behind their end, which isn't theirs alone.
			room := bytes.Repeat([]byte{0xee}, 99)
			b, e := way(room[:size])
			if !bytes.Equal(room, bytes.Repeat([]byte{0xee}, 99)) {
				t.Errorf("%s of %d bytes with room: changed it", name, size)
			}
			kept := string(b)
			for i := range room {
				room[i] = 1
			}
			if string(b) != kept {
				t.Errorf("%s of %d bytes with room: %q is of the same memory (%d)", name, size, b, e)
			}
			b = b[:cap(b)]
			for i := range b {
				b[i] = 2
			}
			if !bytes.Equal(room, bytes.Repeat([]byte{1}, 99)) {
				t.Errorf("%s of %d bytes with room: its answer is of the same memory", name, size)
			}
		}
	}
}

func TestP3_1_AnswersApart(t *testing.T) {
	for name, way := range ways() {
		one, _ := way(make([]byte, 3, 99))
		other, _ := way(one)
		kept := string(other)
		again, _ := way(one)
		for _, b := range [][]byte{one, again} {
			b = b[:cap(b)]
			for i := range b {
				b[i] = 0xee
			}
		}
		if string(other) != kept {
			t.Errorf("%s: two answers are of the same memory", name)
		}
	}
	one, _ := wire.Nums(1, 300)
	other, _ := wire.Nums(1, 300)
	one[0] = 9
	if string(other) != "\x01\xac\x02" {
		t.Errorf("Nums: two answers are of the same memory")
	}
}

func TestP3_2_Num(t *testing.T) {
	nine := strings.Repeat("\x80", 8)
	cases := []struct {
		s    string
		n    int64
		done api.Errno
		rest int
	}{
		{"\x00", 0, api.OK, 0},
		{"\x05", 5, api.OK, 0},
		{"\x7f", 127, api.OK, 0},
		{"\x80\x01", 128, api.OK, 0},
		{"\xac\x02", 300, api.OK, 0},
		{"\xff\x7f", 16383, api.OK, 0},
		{"\x80\x80\x01", 16384, api.OK, 0},
		{nine + "\x01", 1 << 56, api.OK, 0},
		{nine + "\x3f", 0x3f << 56, api.OK, 0},
		{strings.Repeat("\xff", 8) + "\x3f", api.MaxInt - 1, api.OK, 0},
		{nine + "\x40", api.MaxInt, api.OK, 0},
		{"\x05x", 5, api.ErrTail, 1},
		{"\x00\x00", 0, api.ErrTail, 1},
		{"\x00\x80", 0, api.ErrTail, 1},
		{"\xac\x02\x80", 300, api.ErrTail, 1},
		{nine + "\x40\x00", api.MaxInt, api.ErrTail, 1},
		{nine + "\x40\xff\xff", api.MaxInt, api.ErrTail, 2},
		// They end within a number.
		{"", 0, api.ErrCut, 0},
		{"\x80", 0, api.ErrCut, 0},
		{"\x81", 0, api.ErrCut, 0},
		{"\xff", 0, api.ErrCut, 0},
		{"\x80\x80", 0, api.ErrCut, 0},
		{nine, 0, api.ErrCut, 0},
		{strings.Repeat("\xff", 8), 0, api.ErrCut, 0},
		{nine + "\x80", 0, api.ErrCut, 0},
		{nine + "\xc0", 0, api.ErrCut, 0},
		{strings.Repeat("\xff", 9), 0, api.ErrCut, 0},
		// The tenth byte is one too many, whatever it is, and whatever follows it.
		{nine + "\x80\x01", 0, api.ErrCode, 0},
		{nine + "\x80\x00", 0, api.ErrCode, 0},
		{nine + "\x80\x80", 0, api.ErrCode, 0},
		{nine + "\x80\x7f\x05", 0, api.ErrCode, 0},
		{strings.Repeat("\xff", 10), 0, api.ErrCode, 0},
		{strings.Repeat("\x80", 11), 0, api.ErrCode, 0},
		{strings.Repeat("\x80", 1<<20), 0, api.ErrCode, 0},
		{strings.Repeat("\x80", 64) + "\x01", 0, api.ErrCode, 0},
		// Nine bytes, but above MaxInt.
		{"\x81\x80\x80\x80\x80\x80\x80\x80\x40", 0, api.ErrCode, 0},
		{nine + "\x41", 0, api.ErrCode, 0},
		{nine + "\x7f", 0, api.ErrCode, 0},
		{strings.Repeat("\xff", 8) + "\x40", 0, api.ErrCode, 0},
		{strings.Repeat("\xff", 8) + "\x7f", 0, api.ErrCode, 0},
		// A last byte of 0 behind others.
		{"\x80\x00", 0, api.ErrCode, 0},
		{"\x85\x00", 0, api.ErrCode, 0},
		{"\xff\x00", 0, api.ErrCode, 0},
		{"\x80\x00\x01", 0, api.ErrCode, 0},
		{"\x80\x80\x00", 0, api.ErrCode, 0},
		{nine + "\x00", 0, api.ErrCode, 0},
		{strings.Repeat("\xff", 8) + "\x00", 0, api.ErrCode, 0},
	}
	for _, c := range cases {
		r := wire.New([]byte(c.s))
		if n, rest, done := r.Num(), r.Rest(), r.Done(); n != c.n || rest != c.rest || done != c.done {
			t.Errorf("Num of %.20q: %d, %d, %d, not %d, %d, %d", c.s, n, rest, done, c.n, c.rest, c.done)
		}
		if c.done != api.OK && c.done != api.ErrTail && !broken(r, c.done) {
			t.Errorf("behind Num of %.20q: %d", c.s, r.Done())
		}
	}
}

func TestP3_2_Most(t *testing.T) {
	nine := strings.Repeat("\x80", 8)
	cases := []struct {
		s    string
		most int64
		n    int64
		done api.Errno
	}{
		{"\x09", 9, 9, api.OK},
		{"\x09", 10, 9, api.OK},
		{"\x09", 8, 0, api.ErrMany},
		{"\x09", 0, 0, api.ErrMany},
		{"\x09", -1, 0, api.ErrMany},
		{"\x00", 0, 0, api.OK},
		{"\x00", 1, 0, api.OK},
		{"\x00", -1, 0, api.ErrMany},
		{"\x00", math.MinInt64, 0, api.ErrMany},
		{"\x01", 0, 0, api.ErrMany},
		{"\x80\x01", 127, 0, api.ErrMany},
		{"\x80\x01", 128, 128, api.OK},
		{nine + "\x40", api.MaxInt, api.MaxInt, api.OK},
		{nine + "\x40", math.MaxInt64, api.MaxInt, api.OK},
		{nine + "\x40", api.MaxInt - 1, 0, api.ErrMany},
		{"\x09\x00", 9, 9, api.ErrTail},
		{"\x09\x00", 8, 0, api.ErrMany},
		// Num's own errors come first, whatever most is.
		{"", 9, 0, api.ErrCut},
		{"", -1, 0, api.ErrCut},
		{"\x80", 0, 0, api.ErrCut},
		{"\xff", -1, 0, api.ErrCut},
		{"\x80\x00", -1, 0, api.ErrCode},
		{"\x80\x00", 9, 0, api.ErrCode},
		{nine + "\x41", math.MaxInt64, 0, api.ErrCode},
		{nine + "\x41", math.MinInt64, 0, api.ErrCode},
	}
	for _, c := range cases {
		r := wire.New([]byte(c.s))
		if n, done := r.Most(c.most), r.Done(); n != c.n || done != c.done {
			t.Errorf("Most(%d) of %q: %d, %d, not %d, %d", c.most, c.s, n, done, c.n, c.done)
		}
		if c.done != api.OK && c.done != api.ErrTail && !broken(r, c.done) {
			t.Errorf("behind Most(%d) of %q: %d", c.most, c.s, r.Done())
		}
	}
}

func TestP3_2_Text(t *testing.T) {
	full := strings.Repeat("\xc3", 65536)
	cases := []struct {
		s, text string
		done    api.Errno
		rest    int
	}{
		{"\x00", "", api.OK, 0},
		{"\x01a", "a", api.OK, 0},
		{"\x02ab", "ab", api.OK, 0},
		{"\x02\x00\xff", "\x00\xff", api.OK, 0},
		{"\x02\xc3\xa9", "é", api.OK, 0},
		{"\x80\x01" + strings.Repeat("a", 128), strings.Repeat("a", 128), api.OK, 0},
		{"\x80\x80\x04" + full, full, api.OK, 0},
		{"\xff\xff\x03" + full, full[1:], api.ErrTail, 1},
		{"\x00a", "", api.ErrTail, 1},
		{"\x01ab", "a", api.ErrTail, 1},
		{"\x02ab\x09\x03x", "ab", api.ErrTail, 3},
		// Fewer bytes than its length says, or an end within that.
		{"", "", api.ErrCut, 0},
		{"\x80", "", api.ErrCut, 0},
		{"\x01", "", api.ErrCut, 0},
		{"\x03ab", "", api.ErrCut, 0},
		{"\x7f" + strings.Repeat("a", 126), "", api.ErrCut, 0},
		{"\x80\x80\x04", "", api.ErrCut, 0},
		{"\x80\x80\x04" + full[1:], "", api.ErrCut, 0},
		// A length above MaxMsg, whether or not so many bytes are there.
		{"\x81\x80\x04", "", api.ErrMany, 0},
		{"\x81\x80\x04" + full, "", api.ErrMany, 0},
		{"\x81\x80\x04" + full + "a", "", api.ErrMany, 0},
		{"\x81\x80\x04" + full + full, "", api.ErrMany, 0},
		{strings.Repeat("\x80", 8) + "\x40", "", api.ErrMany, 0},
		{"\x80\x80\x80\x80\x10ab", "", api.ErrMany, 0},
		// A length that nobody writes.
		{"\x81\x00a", "", api.ErrCode, 0},
		{"\x80\x00", "", api.ErrCode, 0},
		{strings.Repeat("\x80", 8) + "\x41", "", api.ErrCode, 0},
		{strings.Repeat("\x80", 9) + "\x01", "", api.ErrCode, 0},
	}
	for _, c := range cases {
		r := wire.New([]byte(c.s))
		if text, rest, done := r.Text(), r.Rest(), r.Done(); text != c.text || rest != c.rest || done != c.done {
			t.Errorf("Text of %.20q: %.20q, %d, %d, not %.20q, %d, %d", c.s, text, rest, done, c.text, c.rest, c.done)
		}
		if c.done != api.OK && c.done != api.ErrTail && !broken(r, c.done) {
			t.Errorf("behind Text of %.20q: %d", c.s, r.Done())
		}
	}
}

func TestP3_2_Rest(t *testing.T) {
	r := wire.New([]byte("\xac\x02\x02ab\x00\x09\x80"))
	steps := []func(){func() { r.Num() }, func() { r.Text() }, func() { r.Text() }, func() { r.Most(9) }, func() { r.Num() }, func() { r.Num() }}
	for i, want := range []int{8, 6, 3, 2, 1, 0, 0} {
		if got := r.Rest(); got != want || r.Rest() != want {
			t.Errorf("Rest ahead of step %d: %d, not %d", i, got, want)
		}
		if i < len(steps) {
			steps[i]()
		}
	}
	for _, size := range []int{0, 1, 127, 65536, 1 << 20} {
		if got := wire.New(make([]byte, size)).Rest(); got != size {
			t.Errorf("Rest of %d bytes: %d", size, got)
		}
	}
}

func TestP3_2_Fail(t *testing.T) {
	for _, e := range []api.Errno{api.ErrArg, api.ErrTx, api.ErrCut, api.ErrTail, api.ErrMany, api.ErrLive, -1, 9999, math.MaxInt, math.MinInt} {
		for _, s := range []string{"", "\x05", "\x05x", "\x80", "\x02ab"} {
			r := wire.New([]byte(s))
			r.Fail(e)
			if r.Done() != e || !broken(r, e) {
				t.Errorf("Fail(%d) of %q: %d", e, s, r.Done())
			}
		}
	}
	r := wire.New([]byte("\x05\x06x"))
	r.Fail(api.OK)
	if r.Rest() != 3 || r.Num() != 5 || r.Done() != api.ErrTail {
		t.Errorf("Fail(OK): %d", r.Done())
	}
	// Behind a number that was read.
	r.Fail(api.ErrMsg)
	if r.Done() != api.ErrMsg || !broken(r, api.ErrMsg) {
		t.Errorf("Fail(ErrMsg): %d", r.Done())
	}
	// Behind an error that came of reading, and behind another Fail.
	r = wire.New([]byte("\x80"))
	r.Num()
	r.Fail(api.ErrMsg)
	if r.Done() != api.ErrCut || !broken(r, api.ErrCut) {
		t.Errorf("Fail(ErrMsg) behind ErrCut: %d", r.Done())
	}
	r = wire.New([]byte("\x05"))
	r.Fail(api.ErrTx)
	r.Fail(api.ErrMsg)
	if r.Done() != api.ErrTx {
		t.Errorf("Fail(ErrMsg) behind ErrTx: %d", r.Done())
	}
}

func TestP3_2_Done(t *testing.T) {
	if e := wire.New(nil).Done(); e != api.OK {
		t.Errorf("Done of nil bytes: %d", e)
	}
	if e := wire.New([]byte{}).Done(); e != api.OK {
		t.Errorf("Done of no bytes: %d", e)
	}
	// Bytes that are left are told, and may be read on.
	r := wire.New([]byte("\x05\x01a"))
	for _, want := range []int{3, 2} {
		if r.Done() != api.ErrTail || r.Rest() != want {
			t.Errorf("Done with %d bytes left: %d, %d", want, r.Done(), r.Rest())
		}
		if want == 3 && r.Num() != 5 {
			t.Errorf("Num behind Done: not 5")
		}
	}
	if s := r.Text(); s != "a" || r.Done() != api.OK || r.Done() != api.OK {
		t.Errorf("Done of all that is read: %q, %d", s, r.Done())
	}
	// Behind all of them the bytes end.
	if r.Num() != 0 || r.Done() != api.ErrCut || !broken(r, api.ErrCut) {
		t.Errorf("Num behind all bytes: %d", r.Done())
	}
}

func TestP3_2_NilReader(t *testing.T) {
	var r *wire.Reader
	for range 2 {
		if r.Num() != 0 || r.Most(9) != 0 || r.Most(-1) != 0 || r.Text() != "" || r.Rest() != 0 || r.Done() != api.ErrNil {
			t.Errorf("a nil reader: %d", r.Done())
		}
		r.Fail(api.ErrTx)
		r.Fail(api.OK)
	}
	for _, b := range [][]byte{nil, {}} {
		made := wire.New(b)
		if made == nil || made.Rest() != 0 || made.Text() != "" || made.Done() != api.ErrCut {
			t.Errorf("New of no bytes: %d", made.Done())
		}
	}
}

func TestP3_2_NothingShared(t *testing.T) {
	b := []byte("\x03abc\x80\x01\x02de")
	kept := string(b)
	r, other := wire.New(b), wire.New(b)
	s := r.Text()
	if string(b) != kept {
		t.Errorf("a reader: changed its bytes: %q", b)
	}
	for i := range b {
		b[i] = 0xee
	}
	if s != "abc" || r.Num() != 128 || r.Text() != "de" || r.Done() != api.OK {
		t.Errorf("a reader whose bytes were changed from without: %q, %d", s, r.Done())
	}
	// What one reader does is nothing to another one of the same bytes.
	if other.Rest() != len(kept) || other.Text() != "abc" || other.Num() != 128 || other.Text() != "de" || other.Done() != api.OK {
		t.Errorf("another reader of the same bytes: %d", other.Done())
	}
}

func TestP3_2_ByASecondReckoning(t *testing.T) {
	l := pieces()
	for a := range 256 {
		for b := range 256 {
			l = append(l, string([]byte{byte(a), byte(b)}))
		}
	}
	for _, s := range l {
		for first := range 6 {
			r, m := wire.New([]byte(s)), &model{all: s}
			for step := range 4 {
				k := (first*5 + step*step*7) % 6
				if got, want := call(r, m, k); got != want {
					t.Fatalf("%q, first %d, step %d, call %d: %v, not %v", s, first, step, k, got, want)
				}
			}
		}
	}
}

func TestP3_2_AllOrdersOfCalls(t *testing.T) {
	for _, s := range []string{"", "\x00", "\x01\x01\x01a\x00", "\x02\x00\x01\x80", "\x01a\x02bc\x05", "\x00\x80\x00\x01", "\x81\x80\x04a", "\x01\xff\xff"} {
		for order := range 6 * 6 * 6 * 6 * 6 {
			r, m := wire.New([]byte(s)), &model{all: s}
			for step, rest := 0, order; step < 5; step++ {
				if got, want := call(r, m, rest%6); got != want {
					t.Fatalf("%q, order %d, step %d: %v, not %v", s, order, step, got, want)
				}
				rest /= 6
			}
		}
	}
}

func TestP3_3_WrittenIsRead(t *testing.T) {
	var all []byte
	for _, n := range numbers() {
		for _, s := range texts() {
			b, e := wire.Num(nil, n)
			b, f := wire.Text(b, s)
			r := wire.New(b)
			if got, text := r.Num(), r.Text(); e != api.OK || f != api.OK || got != n || text != s || r.Done() != api.OK {
				t.Fatalf("%d and a text of %d bytes: %d, %d bytes, %d", n, len(s), got, len(text), r.Done())
			}
		}
		all, _ = wire.Num(all, n)
	}
	r := wire.New(all)
	for _, n := range numbers() {
		if got := r.Most(n); got != n {
			t.Errorf("the number %d among others: %d", n, got)
		}
	}
	if e := r.Done(); e != api.OK {
		t.Errorf("behind all numbers: %d", e)
	}
	if b, e := wire.Nums(numbers()...); !bytes.Equal(b, all) || e != api.OK {
		t.Errorf("Nums isn't Num of each: %d", e)
	}
}

func TestP3_3_ReadIsWrittenSo(t *testing.T) {
	read := 0
	for _, s := range pieces() {
		r := wire.New([]byte(s))
		n := r.Num()
		if e := r.Done(); e == api.OK || e == api.ErrTail {
			b, e := wire.Num(nil, n)
			if e != api.OK || string(b) != s[:len(s)-r.Rest()] {
				t.Errorf("%q is read as %d, which is written as %q, %d", s, n, b, e)
			}
			read++
		}
		r = wire.New([]byte(s))
		text := r.Text()
		if e := r.Done(); e == api.OK || e == api.ErrTail {
			b, e := wire.Text(nil, text)
			if e != api.OK || string(b) != s[:len(s)-r.Rest()] {
				t.Errorf("%q is read as %q, which is written as %q, %d", s, text, b, e)
			}
			read++
		}
	}
	if read < 1000 {
		t.Errorf("of all pieces only %d are read", read)
	}
}
