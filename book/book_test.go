package book_test

import (
	"math"
	"slices"
	"strconv"
	"strings"
	"testing"

	"hallmoot/api"
	"hallmoot/book"
)

// contents: some that are all unlike, the empty one and both ends of what may be entered among them.
func contents() []string {
	l := []string{"", "x", "y", "xy", "yx", "X", " ", "x ", " x", "\x00", "\x00\x00", "x\x00", "\x00x", "\xff", "\xff\xfe", "\x80"}
	// What looks alike or is alike when it is folded is another content.
	l = append(l, "é", "e\u0301", "\xe9", "É", "\ufffd", "\U0001F600", "0", "1", "-1", "00", "01")
	for _, size := range []int{2, 31, 32, 33, 255, 4096, api.MaxMsg - 1, api.MaxMsg} {
		long := strings.Repeat("a", size)
		l = append(l, long, long[1:]+"b", "b"+long[1:])
	}
	return l
}

// tooLong: some that are never entered.
func tooLong() []string {
	return []string{
		strings.Repeat("x", api.MaxMsg+1),
		strings.Repeat("a", api.MaxMsg) + "b",
		strings.Repeat("\x00", api.MaxMsg+1),
		strings.Repeat("\xff", 2*api.MaxMsg),
		// Fewer characters than MaxMsg, but more bytes.
		strings.Repeat("é", api.MaxMsg/2) + "x",
		strings.Repeat("\U0001F600", api.MaxMsg/4) + "x",
	}
}

// outside: numbers of no content, in a book with so many.
func outside(size int) []int {
	return []int{0, -1, -2, -size, -size - 1, size + 1, size + 2, 2*size + 1, 1 << 31, 1 << 32, 1<<32 + 1, -1 << 32, 1<<32 - 1, 1 - 1<<32,
		math.MaxInt, math.MaxInt - 1, math.MinInt, math.MinInt + 1, math.MinInt + size}
}

// shown: a content so short that it can be told.
func shown(s string) string {
	if len(s) <= 40 {
		return strconv.Quote(s)
	}
	return strconv.Quote(s[:20]) + " and so on, " + strconv.Itoa(len(s)) + " bytes"
}

// enter: a content, of which this number is expected.
func enter(t *testing.T, b *book.Book, s string, want int) {
	t.Helper()
	if n, e := b.Enter(s); n != want || e != api.OK {
		t.Errorf("Enter(%s): %d, %d, not %d, OK", shown(s), n, e, want)
	}
}

// holds: has a book these contents, in this order, and no others?
func holds(t *testing.T, b *book.Book, l []string) {
	t.Helper()
	if n := b.Len(); n != len(l) {
		t.Errorf("Len: %d, not %d", n, len(l))
	}
	for i, s := range l {
		if n, e := b.Look(s); n != i+1 || e != api.OK {
			t.Errorf("Look(%s): %d, %d, not %d, OK", shown(s), n, e, i+1)
		}
		if told, e := b.Content(i + 1); told != s || e != api.OK {
			t.Errorf("Content(%d): %s, %d, not %s, OK", i+1, shown(told), e, shown(s))
		}
	}
	for _, n := range outside(len(l)) {
		if told, e := b.Content(n); told != "" || e != api.ErrBook {
			t.Errorf("Content(%d) of %d: %s, %d, not ErrBook", n, len(l), shown(told), e)
		}
	}
}

// lacks: does a book know nothing of this content?
func lacks(t *testing.T, b *book.Book, s string) {
	t.Helper()
	if n, e := b.Look(s); n != 0 || e != api.ErrBook {
		t.Errorf("Look(%s): %d, %d, not 0, ErrBook", shown(s), n, e)
	}
}

// filled: a book with these contents.
func filled(l []string) *book.Book {
	b := book.New()
	for _, s := range l {
		b.Enter(s)
	}
	return b
}

func TestP5_1_New(t *testing.T) {
	b := book.New()
	if b == nil {
		t.Fatal("New: nil")
	}
	holds(t, b, nil)
	for _, s := range slices.Concat(contents(), tooLong()) {
		lacks(t, b, s)
	}
	// Asking enters nothing.
	holds(t, b, nil)
	enter(t, b, "x", 1)
}

func TestP5_1_Examples(t *testing.T) {
	b := book.New()
	enter(t, b, "x", 1)
	enter(t, b, "y", 2)
	enter(t, b, "x", 1)
	holds(t, b, []string{"x", "y"})
}

func TestP5_1_Enter(t *testing.T) {
	b := book.New()
	l := contents()
	for i, s := range l {
		lacks(t, b, s)
		enter(t, b, s, i+1)
		if n := b.Len(); n != i+1 {
			t.Errorf("Len after %d: %d", i+1, n)
		}
	}
	holds(t, b, l)
}

func TestP5_1_EnterAgain(t *testing.T) {
	l := []string{"first", "", "middle", "x", "last"}
	b := filled(l)
	for _, at := range []int{0, 2, 4, 4, 0, 1, 3, 2, 0} {
		enter(t, b, l[at], at+1)
		holds(t, b, l)
	}
	// The next new one stands behind them all the same.
	enter(t, b, "next", 6)
	enter(t, b, "first", 1)
	enter(t, b, "next", 6)
	holds(t, b, append(l, "next"))
}

func TestP5_1_EnterTheEmptyContent(t *testing.T) {
	b := book.New()
	lacks(t, b, "")
	enter(t, b, "", 1)
	enter(t, b, "x", 2)
	enter(t, b, "", 1)
	holds(t, b, []string{"", "x"})
}

func TestP5_1_EnterLong(t *testing.T) {
	longest := strings.Repeat("x", api.MaxMsg)
	for _, before := range [][]string{nil, {""}, {"x", "y"}, {longest}} {
		b := filled(before)
		for _, s := range tooLong() {
			if n, e := b.Enter(s); n != 0 || e != api.ErrLong {
				t.Errorf("Enter(%s): %d, %d, not 0, ErrLong", shown(s), n, e)
			}
			lacks(t, b, s)
		}
		holds(t, b, before)
		// What was refused took no number.
		enter(t, b, "next", len(before)+1)
		holds(t, b, append(slices.Clone(before), "next"))
	}
	b := book.New()
	enter(t, b, longest, 1)
	if n, e := b.Enter(longest + "x"); n != 0 || e != api.ErrLong {
		t.Errorf("Enter of one more: %d, %d, not 0, ErrLong", n, e)
	}
	lacks(t, b, longest+"x")
	lacks(t, b, longest[1:])
	holds(t, b, []string{longest})
}

func TestP5_1_Look(t *testing.T) {
	b := filled([]string{"ab", "Ab", "é"})
	for _, s := range []string{"", "a", "b", "aB", "AB", "abc", "ab ", " ab", "ab\x00", "ba", "e", "É", "e\u0301", "\xe9", "\xc3", "1", "2"} {
		lacks(t, b, s)
	}
	for _, s := range tooLong() {
		lacks(t, b, s)
	}
	holds(t, b, []string{"ab", "Ab", "é"})
}

func TestP5_1_Content(t *testing.T) {
	b := filled([]string{"a", "", "c"})
	for _, c := range []struct {
		n    int
		want string
		e    api.Errno
	}{
		{1, "a", api.OK}, {2, "", api.OK}, {3, "c", api.OK},
		{0, "", api.ErrBook}, {4, "", api.ErrBook}, {-1, "", api.ErrBook}, {5, "", api.ErrBook}, {-3, "", api.ErrBook},
		{math.MaxInt, "", api.ErrBook}, {math.MinInt, "", api.ErrBook},
	} {
		if s, e := b.Content(c.n); s != c.want || e != c.e {
			t.Errorf("Content(%d): %q, %d, not %q, %d", c.n, s, e, c.want, c.e)
		}
	}
}

func TestP5_1_NilBook(t *testing.T) {
	var b *book.Book
	for _, s := range slices.Concat(contents(), tooLong()) {
		if n, e := b.Enter(s); n != 0 || e != api.ErrNil {
			t.Errorf("Enter(%s) of nil: %d, %d, not 0, ErrNil", shown(s), n, e)
		}
		if n, e := b.Look(s); n != 0 || e != api.ErrNil {
			t.Errorf("Look(%s) of nil: %d, %d, not 0, ErrNil", shown(s), n, e)
		}
	}
	for _, n := range append(outside(0), 1, 2) {
		if s, e := b.Content(n); s != "" || e != api.ErrNil {
			t.Errorf("Content(%d) of nil: %q, %d, not ErrNil", n, s, e)
		}
	}
	if n := b.Len(); n != 0 {
		t.Errorf("Len of nil: %d", n)
	}
}

func TestP5_1_TwoBooks(t *testing.T) {
	a, b := book.New(), book.New()
	if a == b {
		t.Fatal("New twice: one book")
	}
	enter(t, a, "x", 1)
	enter(t, a, "y", 2)
	lacks(t, b, "x")
	holds(t, b, nil)
	enter(t, b, "y", 1)
	enter(t, b, "z", 2)
	lacks(t, a, "z")
	lacks(t, b, "x")
	holds(t, a, []string{"x", "y"})
	holds(t, b, []string{"y", "z"})
}

// TestP5_1_WhoHoldsIt: a book is an object (R4): who holds it sees what is done with it.
func TestP5_1_WhoHoldsIt(t *testing.T) {
	a := book.New()
	b := a
	enter(t, a, "x", 1)
	enter(t, b, "y", 2)
	holds(t, a, []string{"x", "y"})
	holds(t, b, []string{"x", "y"})
}

// TestP5_1_TextsOfBytes: a text is kept as it was, whatever becomes of the bytes that it was made of.
func TestP5_1_TextsOfBytes(t *testing.T) {
	b := book.New()
	bytes := []byte("abc")
	enter(t, b, string(bytes), 1)
	bytes[0] = 'X'
	enter(t, b, string(bytes), 2)
	whole := strings.Repeat("abc", 3)
	enter(t, b, whole[3:6], 1)
	holds(t, b, []string{"abc", "Xbc"})
}

// model: a second reckoning of a book, which goes through all that was entered.
type model struct{ entered []string }

// look: a content's number, or 0.
func (m *model) look(s string) int { return slices.Index(m.entered, s) + 1 }

// enter: a content's number, or 0, if it may not be entered.
func (m *model) enter(s string) int {
	if len(s) > 65536 {
		return 0
	}
	if m.look(s) == 0 {
		m.entered = append(m.entered, s)
	}
	return m.look(s)
}

// agree: one call, which a seed picks, held against the model.
func agree(t *testing.T, b *book.Book, m *model, seed uint32, s string) {
	t.Helper()
	switch seed >> 8 % 4 {
	case 0, 1:
		want, e := m.enter(s), api.OK
		if want == 0 {
			e = api.ErrLong
		}
		if n, f := b.Enter(s); n != want || f != e {
			t.Fatalf("Enter(%s): %d, %d, not %d, %d", shown(s), n, f, want, e)
		}
	case 2:
		want, e := m.look(s), api.OK
		if want == 0 {
			e = api.ErrBook
		}
		if n, f := b.Look(s); n != want || f != e {
			t.Fatalf("Look(%s): %d, %d, not %d, %d", shown(s), n, f, want, e)
		}
	case 3:
		n := int(seed>>12)%(len(m.entered)+5) - 2
		want, e := "", api.ErrBook
		if n >= 1 && n <= len(m.entered) {
			want, e = m.entered[n-1], api.OK
		}
		if told, f := b.Content(n); told != want || f != e {
			t.Fatalf("Content(%d): %s, %d, not %s, %d", n, shown(told), f, shown(want), e)
		}
	}
	if b.Len() != len(m.entered) {
		t.Fatalf("Len: %d, not %d", b.Len(), len(m.entered))
	}
}

func TestP5_1_ByASecondReckoning(t *testing.T) {
	l := slices.Concat(contents(), tooLong())
	for n := range 300 {
		l = append(l, strconv.Itoa(n*n))
	}
	b, m, seed := book.New(), &model{}, uint32(1)
	for range 20000 {
		seed = seed*1664525 + 1013904223
		agree(t, b, m, seed, l[int(seed>>14)%len(l)])
	}
	if len(m.entered) < 200 {
		t.Errorf("too few were entered: %d", len(m.entered))
	}
	holds(t, b, m.entered)
}

func TestP5_2_UnlikeContentsHaveUnlikeNumbers(t *testing.T) {
	b := book.New()
	seen := map[int]string{}
	enterNew := func(s string) {
		n, e := b.Enter(s)
		if other, there := seen[n]; there || e != api.OK || n < 1 {
			t.Fatalf("Enter(%s): %d, %d, the number of %s", shown(s), n, e, shown(other))
		}
		seen[n] = s
	}
	ahead := contents()
	for _, s := range ahead {
		enterNew(s)
	}
	// All other contents of two bytes.
	for i := range 256 {
		for k := range 256 {
			s := string([]byte{byte(i), byte(k)})
			if !slices.Contains(ahead, s) {
				enterNew(s)
			}
		}
	}
	if b.Len() != len(seen) {
		t.Errorf("Len: %d, not %d", b.Len(), len(seen))
	}
	for n, s := range seen {
		if told, e := b.Content(n); told != s || e != api.OK {
			t.Fatalf("Content(%d): %s, %d, not %s", n, shown(told), e, shown(s))
		}
	}
}

func TestP5_2_ANumberNeverChanges(t *testing.T) {
	b, long := book.New(), strings.Repeat("x", api.MaxMsg+1)
	var l []string
	for n := range 3000 {
		s := "content " + strconv.Itoa(n*7919%3001)
		enter(t, b, s, n+1)
		l = append(l, s)
		b.Enter(long)
		// First, middle and last, however many others came in between.
		for _, at := range []int{0, n / 2, n} {
			enter(t, b, l[at], at+1)
			if k, e := b.Look(l[at]); k != at+1 || e != api.OK {
				t.Fatalf("Look(%q) after %d: %d, %d", l[at], n, k, e)
			}
			if s, e := b.Content(at + 1); s != l[at] || e != api.OK {
				t.Fatalf("Content(%d) after %d: %q, %d", at+1, n, s, e)
			}
		}
	}
	holds(t, b, l)
}

func TestR6_NothingIsKeptBetweenBooks(t *testing.T) {
	for range 3 {
		b := book.New()
		lacks(t, b, "y")
		enter(t, b, "y", 1)
		enter(t, b, "x", 2)
		holds(t, b, []string{"y", "x"})
	}
}
