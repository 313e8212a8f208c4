package tx_test

import (
	"encoding/binary"
	"fmt"
	"math"
	"regexp"
	"slices"
	"strconv"
	"strings"
	"testing"
	"unicode/utf8"
	"unsafe"

	"hallmoot/api"
	"hallmoot/tx"
	"hallmoot/wire"
)

// aMove: one that is right.
func aMove() api.Tx {
	return api.Tx{Kind: api.TxMove, From: "alice", To: "bob", Amount: 5, Nonce: 1}
}

// aPut: one that is right.
func aPut() api.Tx {
	return api.Tx{Kind: api.TxPut, From: "bob", Key: "a", Val: "b c", Nonce: 2}
}

// names: some that are names, with both ends of how many letters they have.
func names() []string {
	return []string{"a", "z", "_", "_9", "a-", "a0", "bob", "alice", "to", "gives", "sets", "move", "é", "élan", "ÿ", "ß", "α", "ω-9", "_-_-",
		strings.Repeat("a", 31), strings.Repeat("a", 32), strings.Repeat("é", 32), "x" + strings.Repeat("9", 31)}
}

// noNames: some that aren't.
func noNames() []string {
	return []string{"", "A", "aB", "Élan", "ÀB", "Ω", "9", "9a", "0", "-", "-a", "a b", " a", "a ", " ", "a:", "a.", "a\n", "a\x00", "\x00", "a\t",
		"÷", "a÷", "×", "д", "\u20ac", "\U0001F600", "\ufffd", "a\xff", "\xc3", "\xe9", "a\x80b", "\xed\xa0\x80", "\xc1\xa1",
		strings.Repeat("a", 33), strings.Repeat("é", 33), strings.Repeat("a", 32) + "\xff", strings.Repeat("a", 65536), strings.Repeat("a", 65537)}
}

// vals: some that are values.
func vals() []string {
	return []string{"", " ", "  ", strings.Repeat(" ", 32), " b", "b ", "b  c", "  b  c  ", "b c", "to ", " to b", "B", "9", "-", ":", "é€", "\ufffd", "\u0080", "~",
		"move 1: alice gives 5 to bob", strings.Repeat("x", 32), strings.Repeat("\U0001F600", 32)}
}

// noVals: some that aren't.
func noVals() []string {
	l := []string{"\xff", "b\xff", "\xc3", "\xed\xa0\x80", "\x7f", "a\x7fb", strings.Repeat("x", 33), strings.Repeat(" ", 33),
		strings.Repeat("é", 33), strings.Repeat("x", 32) + "\xff", strings.Repeat("x", 65536), strings.Repeat("x", 65537)}
	for c := range ' ' {
		l = append(l, string(c), "b"+string(c), string(c)+"b")
	}
	return l
}

// numbers: some that may be nonces and amounts, with both ends.
func numbers() []int64 {
	return []int64{1, 2, 9, 10, 127, 128, 300, 16383, 16384, 1 << 20, 1<<31 - 1, 1 << 31, 1 << 32, 1<<56 - 1, 1 << 56, api.MaxInt - 1, api.MaxInt}
}

// noNumbers: some that may not.
func noNumbers() []int64 {
	return []int64{0, -1, -2, -1 << 32, -api.MaxInt, -api.MaxInt - 1, api.MaxInt + 1, api.MaxInt + 2, math.MaxInt64 - 1, math.MaxInt64, math.MinInt64, math.MinInt64 + 1}
}

// noKinds: numbers that are no kind.
func noKinds() []int {
	return []int{0, -1, -2, 3, 4, 127, 128, 129, 256, 257, 1 << 31, 1 << 32, 1<<32 + 1, 1<<32 + 2, 1 << 62, math.MaxInt, math.MaxInt - 1, math.MinInt, math.MinInt + 1, math.MinInt + 2}
}

// rights: transactions that are right, each field at each of its edges.
func rights() []api.Tx {
	l := []api.Tx{aMove(), aPut()}
	for _, s := range names() {
		l = append(l, api.Tx{Kind: 1, From: s, To: "b", Amount: 1, Nonce: 1}, api.Tx{Kind: 1, From: "b", To: s, Amount: 1, Nonce: 1}, api.Tx{Kind: 1, From: s, To: s, Amount: 1, Nonce: 1})
		l = append(l, api.Tx{Kind: 2, From: s, Key: "b", Nonce: 1}, api.Tx{Kind: 2, From: "b", Key: s, Nonce: 1}, api.Tx{Kind: 2, From: s, Key: s, Val: s, Nonce: 1})
	}
	for _, s := range vals() {
		l = append(l, api.Tx{Kind: 2, From: "b", Key: "k", Val: s, Nonce: 300})
	}
	for _, n := range numbers() {
		l = append(l, api.Tx{Kind: 1, From: "a", To: "b", Amount: n, Nonce: 1}, api.Tx{Kind: 1, From: "a", To: "b", Amount: 1, Nonce: n})
		l = append(l, api.Tx{Kind: 1, From: "a", To: "b", Amount: n, Nonce: n}, api.Tx{Kind: 2, From: "a", Key: "b", Val: "c", Nonce: n})
	}
	return l
}

// wrongs: transactions that aren't right, by one field each.
func wrongs() []api.Tx {
	l := []api.Tx{{}, {Kind: 1}, {Kind: 2}}
	add := func(base api.Tx, change func(*api.Tx)) {
		change(&base)
		l = append(l, base)
	}
	for _, base := range []api.Tx{aMove(), aPut()} {
		for _, n := range noKinds() {
			add(base, func(t *api.Tx) { t.Kind = n })
		}
		add(base, func(t *api.Tx) { t.Kind = 3 - t.Kind })
		for _, s := range noNames() {
			add(base, func(t *api.Tx) { t.From = s })
		}
		for _, n := range noNumbers() {
			add(base, func(t *api.Tx) { t.Nonce = n })
		}
	}
	for _, s := range noNames() {
		add(aMove(), func(t *api.Tx) { t.To = s })
		add(aPut(), func(t *api.Tx) { t.Key = s })
	}
	for _, n := range noNumbers() {
		add(aMove(), func(t *api.Tx) { t.Amount = n })
	}
	for _, s := range noVals() {
		add(aPut(), func(t *api.Tx) { t.Val = s })
	}
	return append(l, unnamed()...)
}

// unnamed: transactions that would be right, were what their kind doesn't name zero.
func unnamed() []api.Tx {
	var l []api.Tx
	for _, s := range slices.Concat([]string{"a", "b c", " ", "\x00", "\xff"}, noNames()[1:]) {
		move, put := aMove(), aPut()
		move.Key = s
		l = append(l, move)
		move.Key, move.Val = "", s
		l = append(l, move)
		put.To = s
		l = append(l, put)
	}
	for _, n := range slices.Concat(numbers(), noNumbers()[1:]) {
		put := aPut()
		put.Amount = n
		l = append(l, put)
	}
	return l
}

// The forms of a name, a number and a value, for a second reckoning by regular expressions.
const (
	nameForm   = `([a-z_ß-öø-ÿα-ω][a-z0-9_ß-öø-ÿα-ω-]{0,31})`
	numberForm = `([1-9][0-9]{0,18})`
	valueForm  = `([^\x00-\x1f\x7f]{0,32})`
)

var (
	nameOnly  = regexp.MustCompile(`\A` + nameForm + `\z`)
	valueOnly = regexp.MustCompile(`\A` + valueForm + `\z`)
	moveWords = regexp.MustCompile(`\Amove ` + numberForm + `: ` + nameForm + ` gives ` + numberForm + ` to ` + nameForm + `\z`)
	putWords  = regexp.MustCompile(`\Aput ` + numberForm + `: ` + nameForm + ` sets ` + nameForm + ` to ` + valueForm + `\z`)
)

// right: a second reckoning of what is right.
func right(t api.Tx) bool {
	is := func(form *regexp.Regexp, s string) bool { return utf8.ValidString(s) && form.MatchString(s) }
	may := func(n int64) bool { return uint64(n)-1 < 1<<62 }
	if !is(nameOnly, t.From) || !may(t.Nonce) {
		return false
	}
	move := t.Kind == 1 && is(nameOnly, t.To) && may(t.Amount) && t.Key+t.Val == ""
	put := t.Kind == 2 && is(nameOnly, t.Key) && is(valueOnly, t.Val) && t.To == "" && t.Amount == 0
	return move || put
}

// bytesOf: a second reckoning of its bytes, by the library's numbers of this form, which also writes what isn't right.
func bytesOf(t api.Tx) string {
	num := func(n int64) string { return string(binary.AppendUvarint(nil, uint64(n))) }
	text := func(s string) string { return num(int64(len(s))) + s }
	ahead := num(int64(t.Kind)) + num(t.Nonce) + text(t.From)
	if t.Kind == 1 {
		return ahead + text(t.To) + num(t.Amount)
	}
	return ahead + text(t.Key) + text(t.Val)
}

// wordsOf: a second reckoning of its words, which also writes what isn't right.
func wordsOf(t api.Tx) string {
	if t.Kind == 1 {
		return fmt.Sprintf("move %d: %s gives %d to %s", t.Nonce, t.From, t.Amount, t.To)
	}
	return fmt.Sprintf("put %d: %s sets %s to %s", t.Nonce, t.From, t.Key, t.Val)
}

// meant: a second reckoning of what words say.
func meant(s string) (api.Tx, api.Errno) {
	if !utf8.ValidString(s) {
		return api.Tx{}, api.ErrTx
	}
	t := api.Tx{}
	if w := moveWords.FindStringSubmatch(s); w != nil {
		t = api.Tx{Kind: 1, Nonce: whole(w[1]), From: w[2], Amount: whole(w[3]), To: w[4]}
	}
	if w := putWords.FindStringSubmatch(s); w != nil {
		t = api.Tx{Kind: 2, Nonce: whole(w[1]), From: w[2], Key: w[3], Val: w[4]}
	}
	if !right(t) {
		return api.Tx{}, api.ErrTx
	}
	return t, api.OK
}

// whole: the number of at most 19 digits, or one that may not be.
func whole(s string) int64 {
	n, e := strconv.ParseInt(s, 10, 64)
	if e != nil {
		return -1
	}
	return n
}

// model: a second reckoning of a reader and of what is taken of it.
type model struct {
	rest   string
	failed api.Errno
}

// fail: the first error stays, and nothing is left.
func (m *model) fail(e api.Errno) {
	if m.failed == api.OK {
		m.rest, m.failed = "", e
	}
}

// num: the next number.
func (m *model) num() int64 {
	if m.failed != api.OK {
		return 0
	}
	size := strings.IndexFunc(m.rest, func(c rune) bool { return c < 128 }) + 1
	n, _ := binary.Uvarint([]byte(m.rest[:size]))
	switch {
	case size == 0 && len(m.rest) < 10:
		m.fail(api.ErrCut)
		return 0
	case size == 0 || size > 9 || n > 1<<62 || string(binary.AppendUvarint(nil, n)) != m.rest[:size]:
		m.fail(api.ErrCode)
		return 0
	}
	m.rest = m.rest[size:]
	return int64(n)
}

// text: the next text.
func (m *model) text() string {
	size := m.num()
	switch {
	case size > 65536:
		m.fail(api.ErrMany)
		return ""
	case size > int64(len(m.rest)):
		m.fail(api.ErrCut)
		return ""
	}
	s := m.rest[:size]
	m.rest = m.rest[size:]
	return s
}

// take: the next transaction.
func (m *model) take() api.Tx {
	t := api.Tx{}
	kind := m.num()
	if kind != 1 && kind != 2 {
		m.fail(api.ErrTx)
		return t
	}
	t.Kind, t.Nonce, t.From = int(kind), m.num(), m.text()
	if kind == 1 {
		t.To, t.Amount = m.text(), m.num()
	} else {
		t.Key, t.Val = m.text(), m.text()
	}
	if !right(t) {
		m.fail(api.ErrTx)
	}
	if m.failed != api.OK {
		return api.Tx{}
	}
	return t
}

// done: as a reader's.
func (m *model) done() api.Errno {
	if m.failed == api.OK && m.rest != "" {
		return api.ErrTail
	}
	return m.failed
}

// taken: is this transaction the next one of a reader, with so much left, and this as the reader's Done?
func taken(t *testing.T, r *wire.Reader, want api.Tx, rest int, done api.Errno) {
	t.Helper()
	if x := tx.Take(r); x != want {
		t.Errorf("Take: %+v, not %+v", x, want)
	}
	if r.Rest() != rest || r.Done() != done {
		t.Errorf("behind Take: %d left, error %d, not %d and %d", r.Rest(), r.Done(), rest, done)
	}
}

// refused: is this error told of these bytes, beside a zero transaction, and does it stick?
func refused(t *testing.T, s string, want api.Errno) {
	t.Helper()
	r := wire.New([]byte(s))
	for range 2 {
		if x := tx.Take(r); x != (api.Tx{}) || r.Rest() != 0 || r.Done() != want {
			t.Errorf("Take of % .40x (%d bytes): %+v, %d left, error %d, not error %d", s, len(s), x, r.Rest(), r.Done(), want)
		}
	}
}

// alike: do a reader and the model take the same, until an error or the end?
func alike(t *testing.T, s string) {
	t.Helper()
	r, m := wire.New([]byte(s)), &model{rest: s}
	for range 4 {
		got, want := tx.Take(r), m.take()
		if got != want || r.Rest() != len(m.rest) || r.Done() != m.done() {
			t.Fatalf("Take of % .80x: %+v, %d left, error %d, not %+v, %d, %d", s, got, r.Rest(), r.Done(), want, len(m.rest), m.done())
		}
	}
}

// parsed: does Parse agree with the second reckoning? Whether it told a transaction.
func parsed(t *testing.T, s string) bool {
	t.Helper()
	got, e := tx.Parse(s)
	want, told := meant(s)
	if got != want || e != told {
		t.Errorf("Parse(%.120q): %+v, error %d, not %+v, error %d", s, got, e, want, told)
	}
	return e == api.OK
}

// unsaid: is ErrTx told of these words, beside a zero transaction?
func unsaid(t *testing.T, s string) {
	t.Helper()
	if x, e := tx.Parse(s); x != (api.Tx{}) || e != api.ErrTx {
		t.Errorf("Parse(%.120q): %+v, error %d", s, x, e)
	}
	if _, e := meant(s); e != api.ErrTx {
		t.Errorf("%.120q is right by the second reckoning", s)
	}
}

// checked: does Check tell this?
func checked(t *testing.T, x api.Tx, want api.Errno) {
	t.Helper()
	if e := tx.Check(x); e != want {
		t.Errorf("Check(%.200q): %d, not %d", fmt.Sprintf("%+v", x), e, want)
	}
}

// TestP8_1_CheckOfRightOnes: each field at each of its edges.
func TestP8_1_CheckOfRightOnes(t *testing.T) {
	for _, x := range rights() {
		checked(t, x, api.OK)
		if !right(x) {
			t.Errorf("%+v isn't right by the second reckoning", x)
		}
	}
}

// TestP8_1_CheckOfWrongOnes: one field of a right one is wrong.
func TestP8_1_CheckOfWrongOnes(t *testing.T) {
	for _, x := range wrongs() {
		checked(t, x, api.ErrTx)
		if right(x) {
			t.Errorf("%+v is right by the second reckoning", x)
		}
	}
}

// TestP8_1_CheckOfKinds: each number of a kind, with what either kind names, both, and nothing.
func TestP8_1_CheckOfKinds(t *testing.T) {
	both := api.Tx{From: "a", To: "b", Amount: 1, Key: "c", Val: "d", Nonce: 1}
	fields := []api.Tx{aMove(), aPut(), both, {}, {From: "a", Nonce: 1}}
	for _, x := range fields {
		for _, kind := range append(noKinds(), 1, 2) {
			want := api.ErrTx
			if kind == 1 && x.Amount == 5 || kind == 2 && x.Val == "b c" {
				want = api.OK
			}
			x.Kind = kind
			checked(t, x, want)
		}
	}
}

// TestP8_1_CheckOfWhatTheKindDoesntName: it is zero, or ErrTx.
func TestP8_1_CheckOfWhatTheKindDoesntName(t *testing.T) {
	for _, x := range unnamed() {
		checked(t, x, api.ErrTx)
		if x.Kind == api.TxMove {
			x.Key, x.Val = "", ""
		} else {
			x.To, x.Amount = "", 0
		}
		checked(t, x, api.OK)
	}
}

// TestP8_1_BytesAndPrintOfExamples: written out.
func TestP8_1_BytesAndPrintOfExamples(t *testing.T) {
	for _, c := range []struct {
		x            api.Tx
		bytes, words string
	}{
		{aMove(), "\x01\x01\x05alice\x03bob\x05", "move 1: alice gives 5 to bob"},
		{aPut(), "\x02\x02\x03bob\x01a\x03b c", "put 2: bob sets a to b c"},
		{api.Tx{Kind: 1, From: "é", To: "é", Amount: 300, Nonce: 128}, "\x01\x80\x01\x02\xc3\xa9\x02\xc3\xa9\xac\x02", "move 128: é gives 300 to é"},
		{api.Tx{Kind: 1, From: "a", To: "b", Amount: api.MaxInt, Nonce: api.MaxInt}, "\x01\x80\x80\x80\x80\x80\x80\x80\x80\x40\x01a\x01b\x80\x80\x80\x80\x80\x80\x80\x80\x40", "move 4611686018427387904: a gives 4611686018427387904 to b"},
		{api.Tx{Kind: 2, From: "a", Key: "b", Nonce: 1}, "\x02\x01\x01a\x01b\x00", "put 1: a sets b to "},
		{api.Tx{Kind: 2, From: "a", Key: "b", Val: "  ", Nonce: 1}, "\x02\x01\x01a\x01b\x02  ", "put 1: a sets b to   "},
	} {
		if b, e := tx.Bytes(c.x); string(b) != c.bytes || e != api.OK {
			t.Errorf("Bytes(%+v): %q, error %d", c.x, b, e)
		}
		if s, e := tx.Print(c.x); s != c.words || e != api.OK {
			t.Errorf("Print(%+v): %q, error %d", c.x, s, e)
		}
		taken(t, wire.New([]byte(c.bytes)), c.x, 0, api.OK)
		if x, e := tx.Parse(c.words); x != c.x || e != api.OK {
			t.Errorf("Parse(%q): %+v, error %d", c.words, x, e)
		}
	}
}

// TestP8_1_BytesAndPrintOfRightOnes: held against a second reckoning.
func TestP8_1_BytesAndPrintOfRightOnes(t *testing.T) {
	for _, x := range rights() {
		if b, e := tx.Bytes(x); string(b) != bytesOf(x) || e != api.OK {
			t.Errorf("Bytes(%+v): %q, error %d", x, b, e)
		}
		if s, e := tx.Print(x); s != wordsOf(x) || e != api.OK {
			t.Errorf("Print(%+v): %q, error %d", x, s, e)
		}
	}
}

// TestP8_1_BytesAndPrintOfWrongOnes: Check's error comes ahead of those of wire, beside nothing (R2).
func TestP8_1_BytesAndPrintOfWrongOnes(t *testing.T) {
	for _, x := range wrongs() {
		if b, e := tx.Bytes(x); len(b) != 0 || e != api.ErrTx {
			t.Errorf("Bytes of kind %d: %d bytes, error %d", x.Kind, len(b), e)
		}
		if s, e := tx.Print(x); s != "" || e != api.ErrTx {
			t.Errorf("Print of kind %d: %d bytes, error %d", x.Kind, len(s), e)
		}
	}
}

// TestP8_1_TakeOfCutBytes: the bytes end at each place within a transaction.
func TestP8_1_TakeOfCutBytes(t *testing.T) {
	for _, x := range rights() {
		s := bytesOf(x)
		for size := range len(s) {
			refused(t, s[:size], api.ErrCut)
		}
		taken(t, wire.New([]byte(s)), x, 0, api.OK)
	}
}

// TestP8_1_TakeLeavesWhatStandsBehind: bytes behind a transaction stay, whatever they are.
func TestP8_1_TakeLeavesWhatStandsBehind(t *testing.T) {
	for _, x := range rights() {
		for _, behind := range []string{"\x00", "\x03", "\x80", "\xff\xff", bytesOf(aMove()), strings.Repeat("\xff", 100)} {
			taken(t, wire.New([]byte(bytesOf(x)+behind)), x, len(behind), api.ErrTail)
		}
	}
}

// TestP8_1_TakeOneBehindTheOther: transactions are taken in their order, and then none is left.
func TestP8_1_TakeOneBehindTheOther(t *testing.T) {
	row, all := rights(), ""
	for _, x := range row {
		all += bytesOf(x)
	}
	r := wire.New([]byte(all))
	for i, x := range row {
		all = all[len(bytesOf(x)):]
		done := api.ErrTail
		if i == len(row)-1 {
			done = api.OK
		}
		taken(t, r, x, len(all), done)
	}
	taken(t, r, api.Tx{}, 0, api.ErrCut)
	taken(t, r, api.Tx{}, 0, api.ErrCut)
}

// TestP8_1_TakeOfAWrongOneBehindARightOne: what was taken stays taken; what is wrong ends it.
func TestP8_1_TakeOfAWrongOneBehindARightOne(t *testing.T) {
	for _, bad := range []api.Tx{{Kind: 1, From: "A", To: "b", Amount: 1, Nonce: 1}, {Kind: 2, From: "a", Key: "b", Val: "\n", Nonce: 1}} {
		behind := bytesOf(bad) + bytesOf(aMove())
		r := wire.New([]byte(bytesOf(aPut()) + behind))
		taken(t, r, aPut(), len(behind), api.ErrTail)
		taken(t, r, api.Tx{}, 0, api.ErrTx)
		taken(t, r, api.Tx{}, 0, api.ErrTx)
	}
}

// TestP8_1_TakeOfTurnedBytes: each place has each other byte.
func TestP8_1_TakeOfTurnedBytes(t *testing.T) {
	long := api.Tx{Kind: 2, From: "é_", Key: "ω9", Val: " b ", Nonce: 300}
	for _, x := range []api.Tx{aMove(), aPut(), long} {
		for _, behind := range []string{"", "\x05", bytesOf(aMove()), bytesOf(aPut())} {
			s := bytesOf(x) + behind
			for i := range len(bytesOf(x)) {
				for c := range 256 {
					alike(t, s[:i]+string([]byte{byte(c)})+s[i+1:])
				}
			}
		}
	}
}

// TestP8_1_TakeOfAnotherKind: ErrTx at once, whatever stands behind it, or nothing.
func TestP8_1_TakeOfAnotherKind(t *testing.T) {
	behind := []string{"", "\x00", "\x80", "\x80\x00", "\xff\xff", strings.Repeat("\xff", 12), bytesOf(aMove()), bytesOf(aMove())[1:], bytesOf(aPut())[1:]}
	for _, kind := range []uint64{0, 3, 4, 126, 127, 128, 129, 130, 255, 256, 257, 258, 1 << 31, 1<<32 + 1, 1<<32 + 2, 1 << 33, 1<<62 - 1, 1 << 62} {
		for _, s := range behind {
			refused(t, string(binary.AppendUvarint(nil, kind))+s, api.ErrTx)
		}
	}
}

// TestP8_1_TakeOfAKindThatIsNoNumber: the reader's error, not ErrTx.
func TestP8_1_TakeOfAKindThatIsNoNumber(t *testing.T) {
	refused(t, "", api.ErrCut)
	refused(t, "\x80", api.ErrCut)
	refused(t, "\x81", api.ErrCut)
	refused(t, "\x81\x00"+bytesOf(aMove())[1:], api.ErrCode)
	refused(t, "\x80\x00", api.ErrCode)
	refused(t, "\x81\x80\x80\x80\x80\x80\x80\x80\x40"+bytesOf(aMove())[1:], api.ErrCode)
	refused(t, strings.Repeat("\x80", 9)+"\x01", api.ErrCode)
	refused(t, strings.Repeat("\xff", 20), api.ErrCode)
}

// TestP8_1_TakeOfWhatWireRefuses: each number and each text of both kinds in a form that nobody writes, or too long.
func TestP8_1_TakeOfWhatWireRefuses(t *testing.T) {
	codes := []string{"\x85\x00", "\x80\x00", "\x81\x80\x80\x80\x80\x80\x80\x80\x40", strings.Repeat("\xff", 8) + "\x7f", strings.Repeat("\x80", 9) + "\x01", strings.Repeat("\xff", 10)}
	manys := []string{"\x81\x80\x04" + strings.Repeat("x", 65537), "\x81\x80\x04", "\x80\x80\x80\x80\x80\x80\x80\x80\x40"}
	cuts := []string{"\x80\x80\x04", "\x80\x80\x04" + strings.Repeat("x", 65535), "\x80\x01"}
	for _, x := range []api.Tx{aMove(), aPut()} {
		parts := fieldsOf(x)
		for i, part := range parts {
			ahead, behind := strings.Join(parts[:i], ""), strings.Join(parts[i+1:], "")
			for _, s := range codes {
				refused(t, ahead+s+behind, api.ErrCode)
			}
			if len(part) == 1 {
				continue
			}
			for _, s := range manys {
				refused(t, ahead+s+behind, api.ErrMany)
			}
			for _, s := range cuts {
				refused(t, ahead+s, api.ErrCut)
			}
		}
	}
}

// fieldsOf: the bytes of one of the two short ones, field by field; of its numbers one each.
func fieldsOf(x api.Tx) []string {
	if x.Kind == api.TxMove {
		return []string{"\x01", "\x01", "\x05alice", "\x03bob", "\x05"}
	}
	return []string{"\x02", "\x02", "\x03bob", "\x01a", "\x03b c"}
}

// TestP8_1_TakeOfTheLongestText: wire may read it, but no name and no value is so long.
func TestP8_1_TakeOfTheLongestText(t *testing.T) {
	text := "\x80\x80\x04" + strings.Repeat("x", 65536)
	refused(t, "\x01\x01"+text+"\x01b\x01", api.ErrTx)
	refused(t, "\x01\x01\x01a"+text+"\x01", api.ErrTx)
	refused(t, "\x02\x01"+text+"\x01b\x01c", api.ErrTx)
	refused(t, "\x02\x01\x01a"+text+"\x01c", api.ErrTx)
	refused(t, "\x02\x01\x01a\x01b"+text, api.ErrTx)
}

// TestP8_1_TakeOfWhatIsNotRight: all of it is read ahead of ErrTx, beside a zero transaction; nothing is left.
func TestP8_1_TakeOfWhatIsNotRight(t *testing.T) {
	for _, x := range wrongs() {
		if x.Kind != api.TxMove && x.Kind != api.TxPut || x.Nonce < 0 || x.Amount < 0 || x.Nonce > api.MaxInt || x.Amount > api.MaxInt {
			continue
		}
		s := bytesOf(x)
		if len(s) > 65536 {
			continue
		}
		// What the kind doesn't name isn't written: then these are the bytes of one that is right.
		if slices.Contains(unnamed(), x) {
			alike(t, s)
			continue
		}
		refused(t, s, api.ErrTx)
		refused(t, s+bytesOf(aMove()), api.ErrTx)
	}
}

// TestP8_1_TheReadersErrorAheadOfErrTx: what isn't right in front tells nothing, where the bytes behind it are wrong.
func TestP8_1_TheReadersErrorAheadOfErrTx(t *testing.T) {
	for _, c := range []struct {
		s    string
		want api.Errno
	}{
		{"\x01\x00\x05alice\x03bob", api.ErrCut},
		{"\x01\x01\x05Alice\x03bob", api.ErrCut},
		{"\x01\x01\x00\x00\x80", api.ErrCut},
		{"\x01\x01\x05Alice\x03bob\x80\x00", api.ErrCode},
		{"\x01\x01\x05alice\x03BOB\x80\x00\x01", api.ErrCode},
		{"\x01\x00\x05alice\x81\x80\x04", api.ErrMany},
		{"\x02\x00\x03bob\x01a\x03b ", api.ErrCut},
		{"\x02\x01\x03bob\x019\x03b ", api.ErrCut},
		{"\x02\x01\x00\x00\x81\x80\x04", api.ErrMany},
		{"\x02\x01\x03Bob\x01a\x85\x00", api.ErrCode},
	} {
		refused(t, c.s, c.want)
		alike(t, c.s)
	}
}

// TestP8_1_TakeOfABrokenValue: a value that can't be read isn't an empty one.
func TestP8_1_TakeOfABrokenValue(t *testing.T) {
	refused(t, "\x02\x01\x01a\x01b", api.ErrCut)
	refused(t, "\x02\x01\x01a\x01b\x01", api.ErrCut)
	refused(t, "\x02\x01\x01a\x01b\x80", api.ErrCut)
	refused(t, "\x02\x01\x01a\x01b\x80\x00", api.ErrCode)
	refused(t, "\x02\x01\x01a\x01b\x81\x80\x04c", api.ErrMany)
	taken(t, wire.New([]byte("\x02\x01\x01a\x01b\x00")), api.Tx{Kind: 2, From: "a", Key: "b", Nonce: 1}, 0, api.OK)
}

// TestP8_1_TakeOfAReaderWithAnError: its error stays, whatever it is, and nothing is taken.
func TestP8_1_TakeOfAReaderWithAnError(t *testing.T) {
	for _, e := range []api.Errno{api.ErrArg, api.ErrNil, api.ErrCut, api.ErrCode, api.ErrTail, api.ErrMany, api.ErrTx, api.ErrBlock, -1, math.MaxInt, math.MinInt} {
		for _, s := range []string{"", bytesOf(aMove()), bytesOf(aPut()), "\x03"} {
			r := wire.New([]byte(s))
			r.Fail(e)
			taken(t, r, api.Tx{}, 0, e)
			taken(t, r, api.Tx{}, 0, e)
		}
	}
}

// TestP8_1_TakeOfAReaderThatFailsBehind: an error behind a transaction stays too, and that one was taken.
func TestP8_1_TakeOfAReaderThatFailsBehind(t *testing.T) {
	r := wire.New([]byte(bytesOf(aMove()) + bytesOf(aPut())))
	taken(t, r, aMove(), len(bytesOf(aPut())), api.ErrTail)
	r.Fail(api.ErrBlock)
	taken(t, r, api.Tx{}, 0, api.ErrBlock)
}

// TestP8_1_TakeFails: behind ErrTx the reader answers zeros, and keeps that error.
func TestP8_1_TakeFails(t *testing.T) {
	r := wire.New([]byte("\x03\x07\x01a"))
	taken(t, r, api.Tx{}, 0, api.ErrTx)
	if r.Num() != 0 || r.Text() != "" || r.Most(9) != 0 {
		t.Errorf("behind ErrTx a reader goes on")
	}
	r.Fail(api.ErrBlock)
	if r.Done() != api.ErrTx {
		t.Errorf("behind ErrTx: error %d", r.Done())
	}
}

// TestP8_1_TakeOfNoBytes: the reader's error, that of bytes which end.
func TestP8_1_TakeOfNoBytes(t *testing.T) {
	for _, b := range [][]byte{nil, {}} {
		r := wire.New(b)
		if r.Done() != api.OK {
			t.Errorf("a reader of no bytes: %d", r.Done())
		}
		taken(t, r, api.Tx{}, 0, api.ErrCut)
	}
}

// TestP8_1_TakeOfNil: nothing, and no panic.
func TestP8_1_TakeOfNil(t *testing.T) {
	taken(t, nil, api.Tx{}, 0, api.ErrNil)
}

// TestP8_1_TakeOfShortBytes: all strings of a few bytes, held against a second reckoning.
func TestP8_1_TakeOfShortBytes(t *testing.T) {
	l := []string{""}
	pieces := []string{"\x00", "\x01", "\x02", "\x03", "\x80", "a", "A", "\x01a", "\x01b", "\xff"}
	for from, round := 0, 0; round < 5; round++ {
		to := len(l)
		for _, s := range l[from:to] {
			for _, c := range pieces {
				l = append(l, s+c)
			}
		}
		from = to
	}
	for _, s := range l {
		alike(t, s)
	}
}

// TestP8_2_Examples: of the chapter.
func TestP8_2_Examples(t *testing.T) {
	for s, want := range map[string]api.Tx{"move 1: alice gives 5 to bob": aMove(), "put 2: bob sets a to b c": aPut()} {
		if x, e := tx.Parse(s); x != want || e != api.OK {
			t.Errorf("Parse(%q): %+v, error %d", s, x, e)
		}
	}
}

// TestP8_2_ParseOfRightOnes: of the words of a second reckoning.
func TestP8_2_ParseOfRightOnes(t *testing.T) {
	for _, x := range rights() {
		if got, e := tx.Parse(wordsOf(x)); got != x || e != api.OK {
			t.Errorf("Parse(%q): %+v, error %d", wordsOf(x), got, e)
		}
	}
}

// TestP8_2_ParseOfWrongOnes: of words that say what isn't right.
func TestP8_2_ParseOfWrongOnes(t *testing.T) {
	for _, x := range wrongs() {
		parsed(t, wordsOf(x))
		if (x.Kind == api.TxMove || x.Kind == api.TxPut) && !slices.Contains(unnamed(), x) {
			unsaid(t, wordsOf(x))
		}
	}
}

// TestP8_2_Words: each word left away, changed, doubled, in another place, and one too many.
func TestP8_2_Words(t *testing.T) {
	others := []string{"", "x", "9", "0", "1:", ":", "move", "put", "gives", "sets", "to", "Move", "PUT", "Gives", "SETS", "To", "moves", "set", "give", "tO", "to:", "a:", "5:", "+5", "-5", "05", "5\t", "\xff"}
	said := 0
	for _, s := range []string{"move 1: alice gives 5 to bob", "put 2: bob sets a to b", "put 2: bob sets a to b c"} {
		w := strings.Split(s, " ")
		for i := range w {
			unsaidOr(t, &said, strings.Join(slices.Delete(slices.Clone(w), i, i+1), " "))
			unsaidOr(t, &said, strings.Join(slices.Insert(slices.Clone(w), i, w[i]), " "))
			for _, other := range others {
				unsaidOr(t, &said, strings.Join(slices.Replace(slices.Clone(w), i, i+1, other), " "))
				unsaidOr(t, &said, strings.Join(slices.Insert(slices.Clone(w), i, other), " "))
				unsaidOr(t, &said, s+" "+other)
			}
			for j := range i {
				turned := slices.Clone(w)
				turned[i], turned[j] = turned[j], turned[i]
				unsaidOr(t, &said, strings.Join(turned, " "))
			}
		}
	}
	if said < 100 {
		t.Errorf("only %d texts were transactions", said)
	}
}

// unsaidOr: does Parse agree with the second reckoning? What was told is counted.
func unsaidOr(t *testing.T, said *int, s string) {
	t.Helper()
	if parsed(t, s) {
		*said++
	}
}

// TestP8_2_WordsThatSayNothing: written out.
func TestP8_2_WordsThatSayNothing(t *testing.T) {
	for _, s := range []string{
		"", " ", "  ", ":", "move", "put", "move 1:", "move 1: alice", "move 1: alice gives", "move 1: alice gives 5",
		"move 1: alice gives 5 to", "move 1: alice gives 5 to ", "move 1: alice gives 5 tobob", "move 1: alice gives 5 bob",
		"move 1: alice gives 5 to bob ", " move 1: alice gives 5 to bob", "move  1: alice gives 5 to bob", "move 1:  alice gives 5 to bob",
		"move 1: alice  gives 5 to bob", "move 1: alice gives  5 to bob", "move 1: alice gives 5  to bob", "move 1: alice gives 5 to  bob",
		"move 1: alice gives 5 to bob c", "move 1: alice gives 5 to bob to c", "move 1 alice gives 5 to bob", "move 1 : alice gives 5 to bob",
		"move 1:: alice gives 5 to bob", "move 1; alice gives 5 to bob", "move :1 alice gives 5 to bob", "move : alice gives 5 to bob", "move 1:alice gives 5 to bob",
		"move 1: alice: gives 5 to bob", "move 1: alice gives 5: to bob", "move 1: alice gives 5 to: bob", "move: 1: alice gives 5 to bob",
		"Move 1: alice gives 5 to bob", "MOVE 1: alice gives 5 to bob", "move 1: alice Gives 5 to bob", "move 1: alice gives 5 To bob",
		"move 1: Alice gives 5 to bob", "move 1: alice gives 5 to boB", "move 1: Élan gives 5 to bob", "move 1: alice gives 5 to Ωm",
		"move 1: 9lice gives 5 to bob", "move 1: -alice gives 5 to bob", "move 1: alice gives 5 to 9", "move 1: a\xffb gives 5 to bob", "move 1: alice gives 5 to b\xff",
		"move 1: alice sets 5 to bob", "put 1: alice gives 5 to bob", "put 2: bob sets a", "put 2: bob sets a to", "put 2: bob sets a tob", "put 2: bob sets to b", "put 2: bob sets a is b",
		"put 2: bob sets  to b", "put 2:  sets a to b", "put 2: bob sets A to b", "put 2: bob sets 9 to b", "put 2: Bob sets a to b", "put 2: bob Sets a to b", "put 2: bob sets a TO b", "Put 2: bob sets a to b",
		"put 2 bob sets a to b", " put 2: bob sets a to b", "put  2: bob sets a to b", "put 2: bob sets a  to b", "put 2: bob  sets a to b", "put 2: bob sets a to b\n", "put 2: bob sets a to \x7f", "put 2: bob sets a to \xff",
		"put\t2:\tbob\tsets\ta\tto\tb", "put\u00a02: bob sets a to b", "move 1: alice gives 5\nto bob", "take 1: alice gives 5 to bob", "move 1: alice gives 5 to bob\n", "move 1: alice gives 5 to bob\x00", "\ufeffmove 1: alice gives 5 to bob",
	} {
		unsaid(t, s)
	}
}

// TestP8_2_Numbers: as words of a nonce and of an amount.
func TestP8_2_Numbers(t *testing.T) {
	for _, s := range []string{"", "0", "00", "01", "007", "+1", "-1", "-0", "+0", "1.0", "1e3", "0x1", "1_000", "1,000", " 1", "1 ", "one", "1a", "a1", "١", "１", "\xff", "1\x00", "-", "+",
		"4611686018427387905", "9223372036854775807", "9223372036854775808", "18446744073709551616", "18446744073709551617", "04611686018427387904", "46116860184273879040", strings.Repeat("9", 100), strings.Repeat("1", 5000), "-4611686018427387904"} {
		unsaid(t, "move "+s+": alice gives 5 to bob")
		unsaid(t, "move 1: alice gives "+s+" to bob")
		unsaid(t, "put "+s+": bob sets a to b")
	}
	for _, n := range numbers() {
		s := strconv.FormatInt(n, 10)
		for _, words := range []string{"move " + s + ": alice gives 5 to bob", "move 1: alice gives " + s + " to bob", "put " + s + ": bob sets a to b"} {
			if !parsed(t, words) {
				t.Errorf("%q is none", words)
			}
		}
	}
}

// TestP8_2_ValuesOfWords: all that stands behind "to ", with its blanks, and with words in it.
func TestP8_2_ValuesOfWords(t *testing.T) {
	for _, s := range append(vals(), "b to c", " to  ", "a sets b to c", ": : :", "to to to") {
		want := api.Tx{Kind: 2, From: "bob", Key: "a", Val: s, Nonce: 2}
		if x, e := tx.Parse("put 2: bob sets a to " + s); x != want || e != api.OK {
			t.Errorf("Parse with the value %q: %+v, error %d", s, x, e)
		}
	}
	for _, s := range noVals() {
		unsaid(t, "put 2: bob sets a to "+s)
	}
}

// TestP8_2_NamesThatAreWords: the words of the form may be names and keys.
func TestP8_2_NamesThatAreWords(t *testing.T) {
	for _, s := range []string{"move 1: gives gives 5 to to", "move 1: move gives 5 to put", "move 1: to gives 1 to gives", "put 2: sets sets to to to", "put 2: put sets sets to  to ", "put 2: to sets to to "} {
		if !parsed(t, s) {
			t.Errorf("%q is none", s)
		}
	}
}

// TestP8_2_CutAndTurnedWords: words that end at each place, and each place with other bytes.
func TestP8_2_CutAndTurnedWords(t *testing.T) {
	for _, s := range []string{"move 1: alice gives 5 to bob", "put 2: bob sets a to b c", "move 10: é gives 40 to ω", "put 2: bob sets a to "} {
		for i := range len(s) {
			parsed(t, s[:i])
			parsed(t, s[i:])
			parsed(t, s[:i]+s[i+1:])
			for c := range 256 {
				parsed(t, s[:i]+string([]byte{byte(c)})+s[i+1:])
				parsed(t, s[:i]+string([]byte{byte(c)})+s[i:])
			}
		}
	}
}

// TestP8_2_LongTexts: of many words, and of words of many letters.
func TestP8_2_LongTexts(t *testing.T) {
	for _, s := range []string{" ", "a", "move ", "move 1: alice gives 5 to bob ", "\xff", ": "} {
		long := strings.Repeat(s, 1<<18)
		unsaid(t, long)
		unsaid(t, "move 1: alice gives 5 to "+long)
		unsaid(t, "put 2: bob sets a to "+long)
		unsaid(t, "move "+long+": alice gives 5 to bob")
		unsaid(t, "move 1: alice gives "+long+" to bob")
	}
}

// TestP8_3_TakeOfBytesAndParseOfPrint: they are the transaction.
func TestP8_3_TakeOfBytesAndParseOfPrint(t *testing.T) {
	for _, x := range rights() {
		follows(t, x)
	}
}

// follows: does a transaction come back of its bytes and of its words?
func follows(t *testing.T, x api.Tx) {
	t.Helper()
	b, e := tx.Bytes(x)
	if e != api.OK {
		t.Errorf("Bytes(%+v): %d", x, e)
	}
	taken(t, wire.New(b), x, 0, api.OK)
	s, e := tx.Print(x)
	if e != api.OK {
		t.Errorf("Print(%+v): %d", x, e)
	}
	if got, e := tx.Parse(s); got != x || e != api.OK {
		t.Errorf("Parse(%q): %+v, error %d", s, got, e)
	}
}

// TestP8_3_WhatIsTakenIsWrittenSo: bytes and words of which a transaction comes are its own; there are no others.
func TestP8_3_WhatIsTakenIsWrittenSo(t *testing.T) {
	d := drawn(83)
	count := 0
	for range 20000 {
		x := d.tx()
		s := d.turn(bytesOf(x))
		r := wire.New([]byte(s))
		if y := tx.Take(r); y != (api.Tx{}) {
			count++
			if b, e := tx.Bytes(y); string(b) != s[:len(s)-r.Rest()] || e != api.OK {
				t.Errorf("% x is taken as %+v, which is written % x", s, y, b)
			}
		}
		s = d.turn(wordsOf(x))
		if y, e := tx.Parse(s); e == api.OK {
			count++
			if words, e := tx.Print(y); words != s || e != api.OK {
				t.Errorf("%q is parsed as %+v, which is written %q", s, y, words)
			}
		}
	}
	if count < 2000 {
		t.Errorf("only %d came of turned bytes and words", count)
	}
}

// dice: numbers that look drawn, the same each time, and lists of which they draw.
type dice struct {
	seed                           uint64
	names, noNames, values, noVals []string
}

// drawn: dice with a seed; their lists are made once, since some of them are long.
func drawn(seed uint64) *dice {
	return &dice{seed, names(), noNames()[:30], vals(), noVals()[:8]}
}

// below: a number from 0 to n less 1.
func (d *dice) below(n int) int {
	d.seed = d.seed*6364136223846793005 + 1442695040888963407
	return int(d.seed >> 33 % uint64(n))
}

// one: of a list, or now and then of another one.
func one[T any](d *dice, odd int, l, others []T) T {
	if d.below(odd) == 0 {
		return others[d.below(len(others))]
	}
	return l[d.below(len(l))]
}

// tx: a transaction, most of which are right.
func (d *dice) tx() api.Tx {
	x := api.Tx{Kind: 1 + d.below(2)}
	x.From, x.Nonce = one(d, 40, d.names, d.noNames), one(d, 40, numbers(), noNumbers())
	if x.Kind == api.TxMove {
		x.To, x.Amount = one(d, 40, d.names, d.noNames), one(d, 40, numbers(), noNumbers())
	} else {
		x.Key, x.Val = one(d, 40, d.names, d.noNames), one(d, 40, d.values, d.noVals)
	}
	switch d.below(60) {
	case 0:
		x.Kind = one(d, 2, noKinds(), []int{1, 2})
	case 1:
		x.To, x.Key = x.Key, x.To
	case 2:
		x.Val = "v"
	case 3:
		x.Amount = 1
	}
	return x
}

// turn: a text with a byte changed, left away, put in or doubled, or none.
func (d *dice) turn(s string) string {
	i, c := d.below(len(s)), string([]byte{byte(d.below(256))})
	switch d.below(6) {
	case 0:
		return s[:i] + c + s[i+1:]
	case 1:
		return s[:i] + s[i+1:]
	case 2:
		return s[:i] + c + s[i:]
	case 3:
		return s[:i] + s[i:i+1] + s[i:]
	case 4:
		return s[:i]
	}
	return s
}

// TestP8_ByASecondReckoning: a long row of transactions, bytes and words.
func TestP8_ByASecondReckoning(t *testing.T) {
	d := drawn(8)
	counts := [2]int{}
	for range 20000 {
		x := d.tx()
		want, seen := api.ErrTx, 0
		if right(x) {
			want, seen = api.OK, 1
		}
		counts[seen]++
		checked(t, x, want)
		if b, e := tx.Bytes(x); e != want || e == api.OK && string(b) != bytesOf(x) || e != api.OK && len(b) != 0 {
			t.Errorf("Bytes(%+v): %q, error %d", x, b, e)
		}
		if s, e := tx.Print(x); e != want || e == api.OK && s != wordsOf(x) || e != api.OK && s != "" {
			t.Errorf("Print(%+v): %q, error %d", x, s, e)
		}
		alike(t, d.turn(bytesOf(x))+bytesOf(d.tx()))
		parsed(t, d.turn(wordsOf(x)))
	}
	if counts[0] < 1000 || counts[1] < 10000 {
		t.Errorf("%d were wrong, %d right", counts[0], counts[1])
	}
}

// inside: does a text that isn't empty lie in the memory of another one?
func inside(s, whole string) bool {
	at, from := uintptr(unsafe.Pointer(unsafe.StringData(s))), uintptr(unsafe.Pointer(unsafe.StringData(whole)))
	return s != "" && at >= from && at < from+uintptr(len(whole))
}

// TestR4_ParsedTextsAreNew: they lie neither in the words, nor in each other.
func TestR4_ParsedTextsAreNew(t *testing.T) {
	for _, x := range []api.Tx{aMove(), aPut(), {Kind: 2, From: "a", Key: "a", Val: "a", Nonce: 1}, {Kind: 1, From: "abc", To: "abc", Amount: 1, Nonce: 1}} {
		s := strings.Clone(wordsOf(x))
		y, e := tx.Parse(s)
		if e != api.OK {
			t.Fatalf("Parse(%q): %d", s, e)
		}
		for _, text := range []string{y.From, y.To, y.Key, y.Val} {
			if inside(text, s) {
				t.Errorf("%q lies in the words %q", text, s)
			}
		}
		for _, text := range []string{y.To, y.Key, y.Val} {
			if len(text) > 1 && inside(text, y.From) {
				t.Errorf("%q of %q lies in From's memory", text, s)
			}
		}
	}
}

// TestR4_TakenTextsStay: what is written to the bytes changes nothing that was taken.
func TestR4_TakenTextsStay(t *testing.T) {
	b := []byte(bytesOf(aPut()))
	x := tx.Take(wire.New(b))
	clear(b)
	if x != aPut() {
		t.Errorf("taken: %+v", x)
	}
}

// TestR4_BytesAreTheCallers: two answers share nothing, nor does room behind their ends lie in the other.
func TestR4_BytesAreTheCallers(t *testing.T) {
	for _, x := range []api.Tx{aMove(), aPut()} {
		a, _ := tx.Bytes(x)
		b, _ := tx.Bytes(x)
		clear(a[:cap(a)])
		if string(b) != bytesOf(x) {
			t.Errorf("Bytes(%+v): two answers are of the same memory", x)
		}
		if c, e := tx.Bytes(x); string(c) != bytesOf(x) || e != api.OK {
			t.Errorf("Bytes(%+v) behind a change: %q, %d", x, c, e)
		}
	}
}

// TestR6_NothingIsKept: calls in between, refused ones too, change no answer.
func TestR6_NothingIsKept(t *testing.T) {
	for _, x := range wrongs() {
		tx.Check(x)
		tx.Bytes(x)
		tx.Print(x)
		tx.Parse("move 1: alice gives 5 to")
		tx.Take(wire.New([]byte("\x03")))
	}
	follows(t, aMove())
	follows(t, aPut())
}
