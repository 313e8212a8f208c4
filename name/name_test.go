package name_test

import (
	"cmp"
	"math"
	"slices"
	"strings"
	"testing"
	"unicode/utf8"

	"hallmoot/api"
	"hallmoot/name"
)

// letters and greats: all of them, written out; a great one stands at the place of its letter.
const (
	plain  = "0123456789_-\u00df\u00ff\u03c2"
	smalls = "abcdefghijklmnopqrstuvwxyz" + "àáâãäåæçèéêëìíîïðñòóôõöøùúûüýþ" + "αβγδεζηθικλμνξοπρστυφχψω"
	greats = "ABCDEFGHIJKLMNOPQRSTUVWXYZ" + "ÀÁÂÃÄÅÆÇÈÉÊËÌÍÎÏÐÑÒÓÔÕÖØÙÚÛÜÝÞ" + "ΑΒΓΔΕΖΗΘΙΚΛΜΝΞΟΠΡΣΤΥΦΧΨΩ"
)

// small: each great one's letter. Made once, since it is asked of every character.
var small = func() map[rune]rune {
	of, l := map[rune]rune{}, []rune(smalls)
	for i, c := range []rune(greats) {
		of[c] = l[i]
	}
	return of
}()

// runes: all characters, and numbers that are none: below 0, of surrogates, and beyond.
func runes() []rune {
	l := []rune{math.MinInt32, math.MinInt32 + 'a', -1 << 16, -0x3B1, -'z', -'a', -33, -32, -1}
	for c := rune(0); c <= utf8.MaxRune+300; c++ {
		l = append(l, c)
	}
	return append(l, 1<<24+'a', 1<<24+'A', 1<<30, math.MaxInt32-32, math.MaxInt32-31, math.MaxInt32)
}

// texts: all of up to three of these pieces, some of which make a character only together, or none at all.
func texts() []string {
	pieces := []string{"", "a", "Z", "9", "-", "_", "é", "É", "\u03c9", "\u00d7", "\u20ac", "\ufffd", "\U0001F600", "\xff", "\x80", "\xbf", "\xbd", "\xc3", "\xef", "\xef\xbf", "\xed\xa0\x80", "\xc0\xaf", "\x00"}
	var l []string
	for _, a := range pieces {
		for _, b := range pieces {
			for _, c := range pieces {
				l = append(l, a+b+c)
			}
		}
	}
	slices.Sort(l)
	return slices.Compact(l)
}

// few: a part of texts, from a place on.
func few(from, step int) []string {
	var l []string
	for i, s := range texts() {
		if i%step == from {
			l = append(l, s)
		}
	}
	return l
}

// isName: a second reckoning, by the letters that are written out.
func isName(s string) bool {
	l := []rune(s)
	if !utf8.ValidString(s) || len(l) < 1 || len(l) > 32 || strings.ContainsRune("0123456789-", l[0]) {
		return false
	}
	return !slices.ContainsFunc(l, func(c rune) bool { return !strings.ContainsRune(plain+smalls, c) })
}

// folded: a second reckoning, by the great ones that are written out.
func folded(s string) (string, api.Errno) {
	if !utf8.ValidString(s) {
		return "", api.ErrName
	}
	l := []rune(s)
	for i, c := range l {
		if letter, ok := small[c]; ok {
			l[i] = letter
		}
	}
	if !isName(string(l)) {
		return "", api.ErrName
	}
	return string(l), api.OK
}

// order: a second reckoning; below 0, if a stands ahead of b.
func order(a, b string) int {
	return cmp.Or(slices.Compare([]rune(a), []rune(b)), strings.Compare(a, b))
}

func TestP2_1_LetterOfAllRunes(t *testing.T) {
	told := map[rune]int{}
	for _, c := range plain + smalls {
		told[c] = 1
	}
	for _, c := range runes() {
		if got := name.Letter(c); got != (told[c] == 1) {
			t.Errorf("Letter(%U): %t", c, got)
		}
	}
}

func TestP2_1_SmallOfAllRunes(t *testing.T) {
	for _, c := range runes() {
		want, ok := small[c]
		if !ok {
			want = c
		}
		if got := name.Small(c); got != want {
			t.Errorf("Small(%U): %U, not %U", c, got, want)
		}
	}
}

func TestP2_1_EndsOfRanges(t *testing.T) {
	cases := []struct {
		letters, others, turned, kept []rune
	}{
		{letters: []rune{'a', 'z', '0', '9', '_', '-'}, others: []rune{'a' - 1, 'z' + 1, '/', ':', '^', ',', '.', ' '}},
		{letters: []rune{0xDF, 0xE0, 0xF6, 0xF8, 0xFE, 0xFF}, others: []rune{0xDE, 0xF7, 0x100}},
		{letters: []rune{0x3B1, 0x3C1, 0x3C2, 0x3C3, 0x3C9}, others: []rune{0x3B0, 0x3CA}},
		{turned: []rune{'A', 'Z'}, kept: []rune{'@', '[', 'a', 'z'}},
		{turned: []rune{0xC0, 0xD6, 0xD8, 0xDE}, kept: []rune{0xBF, 0xD7, 0xDF, 0xF7, 0xFF}},
		{turned: []rune{0x391, 0x3A1, 0x3A3, 0x3A9}, kept: []rune{0x390, 0x3A2, 0x3AA, 0x3C2}},
		{others: []rune{-1, -'a', math.MinInt32, utf8.MaxRune, utf8.MaxRune + 1, math.MaxInt32, utf8.RuneError, 0xD800}},
		{kept: []rune{-1, -'A', math.MinInt32, utf8.MaxRune, utf8.MaxRune + 1, math.MaxInt32, utf8.RuneError, 0xD800}},
	}
	for _, c := range cases {
		for _, r := range c.letters {
			if !name.Letter(r) {
				t.Errorf("Letter(%U): false", r)
			}
		}
		for _, r := range append(slices.Clone(c.others), c.turned...) {
			if name.Letter(r) {
				t.Errorf("Letter(%U): true", r)
			}
		}
		for _, r := range c.turned {
			if got := name.Small(r); got != r+32 || !name.Letter(got) {
				t.Errorf("Small(%U): %U", r, got)
			}
		}
		for _, r := range c.kept {
			if got := name.Small(r); got != r {
				t.Errorf("Small(%U): %U", r, got)
			}
		}
	}
}

func TestP2_1_Check(t *testing.T) {
	names := []string{
		"a", "z", "_", "_9", "_-", "a-b", "alice", "x0123456789", "é", "ß", "ÿ", "ς", "ω9", "þ-_",
		strings.Repeat("a", 32), strings.Repeat("_", 32), strings.Repeat("é", 32), strings.Repeat("ω", 31) + "9", "a" + strings.Repeat("-", 31),
	}
	for _, s := range names {
		if e := name.Check(s); e != api.OK {
			t.Errorf("Check(%q): %d", s, e)
		}
	}
	others := []string{
		"", "9", "0", "9a", "-", "-a", "--", "0_", "A", "Alice", "alicE", "aÉ", "É", "Ω", "aΩ", "a\u03a2", "a\u00d7", "a\u00f7", "\u00f7",
		" ", "a b", "a ", " a", "a\n", "a\x00", "\x00", "a\x7f", "a.b", "a\u0430", "\u20ac", "a\u0301", "a\U0001F600", "\uff41",
		"\ufffd", "a\ufffd", "\xff", "a\xff", "\xe9", "a\xe9", "a\xc3", "\xa9", "\xc3", "a\xce", "\xed\xa0\x80", "\xc1\xa1", "a\xc1\xa1", "\xe0\x83\xa9",
		strings.Repeat("a", 33), strings.Repeat("é", 33), strings.Repeat("é", 32) + "a", strings.Repeat("a", 32) + "\xff", strings.Repeat("a", 32) + " ", strings.Repeat("a", 31) + "\xff",
		strings.Repeat("é", 31) + "\xc3", "9" + strings.Repeat("a", 31), "-" + strings.Repeat("a", 31), strings.Repeat("a", 1<<20),
	}
	for _, s := range others {
		if e := name.Check(s); e != api.ErrName {
			t.Errorf("Check(%.40q): %d", s, e)
		}
	}
}

func TestP2_1_CheckOfShortTexts(t *testing.T) {
	for _, s := range texts() {
		want := api.OK
		if !isName(s) {
			want = api.ErrName
		}
		if e := name.Check(s); e != want {
			t.Errorf("Check(%q): %d, not %d", s, e, want)
		}
	}
}

func TestP2_1_Value(t *testing.T) {
	values := []string{
		"", " ", "  ", "!", "~", "a b \u20ac", "Alice", "9a", "-", "\x20\x7e", "\u0080", "\u0085", "\u00a0", "\u00d7\u00f7", "\u2028", "\ufffd", "a\ufffdb", "\ufffe", "\U0010ffff", "\U0001F600",
		strings.Repeat("a", 32), strings.Repeat(" ", 32), strings.Repeat("\u0080", 32), strings.Repeat("\u20ac", 32), strings.Repeat("\U0010ffff", 32), strings.Repeat("\ufffd", 32),
	}
	for _, s := range values {
		if e := name.Value(s); e != api.OK {
			t.Errorf("Value(%q): %d", s, e)
		}
	}
	others := []string{
		"\x00", "\x1f", "\x7f", "a\x1f", "\x1fa", "a\x7f", "\x7fa", "a\nb", "\t", "a\r",
		"\x80", "\xff", "a\xff", "\xffa", "\xc3", "a\xc3", "\xa9", "\xef", "\xef\xbf", "a\xef\xbf", "\xef\xbfa", "\xbd", "\ufffd\xbd", "\ufffd\xff", "\xff\ufffd", "\xed\xa0\x80", "\xc0\xa0", "\xe0\x80\xa0", "\xf4\x90\x80\x80", "\xf0\x9f\x98",
		strings.Repeat("a", 33), strings.Repeat(" ", 33), strings.Repeat("\u20ac", 33), strings.Repeat("\ufffd", 33),
		strings.Repeat("a", 32) + "\xff", strings.Repeat("a", 31) + "\xff", strings.Repeat("a", 31) + "\x1f", strings.Repeat("\u20ac", 31) + "\xe2\x82", strings.Repeat(" ", 1<<20),
	}
	for _, s := range others {
		if e := name.Value(s); e != api.ErrName {
			t.Errorf("Value(%.40q): %d", s, e)
		}
	}
}

func TestP2_1_ValueOfEachCharacter(t *testing.T) {
	for c := rune(0); c <= utf8.MaxRune; c++ {
		want := api.OK
		if c < 32 || c == 127 {
			want = api.ErrName
		}
		// string turns surrogates into U+FFFD, which may stand in a value.
		if e := name.Value(string(c)); e != want {
			t.Errorf("Value of %U: %d, not %d", c, e, want)
		}
	}
	for _, s := range texts() {
		want := api.OK
		if !utf8.ValidString(s) || strings.Contains(s, "\x00") {
			want = api.ErrName
		}
		if e := name.Value(s); e != want {
			t.Errorf("Value(%q): %d, not %d", s, e, want)
		}
	}
}

func TestP2_2_Fold(t *testing.T) {
	cases := []struct{ s, want string }{
		{"Élan", "élan"},
		{"Alice", "alice"},
		{"alice", "alice"},
		{"A", "a"},
		{"Z-9_", "z-9_"},
		{"_9", "_9"},
		{"ΑΩ", "αω"},
		{"ΣΟΦΟΣ", "σοφοσ"},
		{"ΣΟΦΟς", "σοφος"},
		{"ßÞÿ", "ßþÿ"},
		{"\u00c0\u00d6\u00d8\u00de", "\u00e0\u00f6\u00f8\u00fe"},
		{"\u0391\u03a1\u03a3\u03a9", "\u03b1\u03c1\u03c3\u03c9"},
		{strings.Repeat("A", 32), strings.Repeat("a", 32)},
		{strings.Repeat("É", 32), strings.Repeat("é", 32)},
		{strings.Repeat("Ω", 31) + "9", strings.Repeat("ω", 31) + "9"},
	}
	for _, c := range cases {
		if got, e := name.Fold(c.s); got != c.want || e != api.OK {
			t.Errorf("Fold(%q): %q, %d, not %q", c.s, got, e, c.want)
		}
	}
	others := []string{
		"", "9a", "9A", "-A", "-", "A B", "A ", "A.", "a\u00d7", "\u00d7", "\u00f7", "A\u03a2", "\u03a2", "\u0100", "\u0410", "A\u0301",
		"\xff", "A\xff", "\xc9", "A\xc3", "\xc3", "A\xce", "\ufffd", "A\ufffd", "\xed\xa0\x80", "\xc1\x81", "A\x00", "A\n",
		strings.Repeat("A", 33), strings.Repeat("É", 33), strings.Repeat("A", 32) + "\xff", strings.Repeat("A", 31) + "\xff", "9" + strings.Repeat("A", 31), strings.Repeat("A", 1<<20), strings.Repeat("\xff", 1<<20),
	}
	for _, s := range others {
		if got, e := name.Fold(s); got != "" || e != api.ErrName {
			t.Errorf("Fold(%.40q): %.40q, %d", s, got, e)
		}
	}
}

func TestP2_2_FoldOfShortTexts(t *testing.T) {
	for _, s := range texts() {
		want, wantErr := folded(s)
		if got, e := name.Fold(s); got != want || e != wantErr {
			t.Errorf("Fold(%q): %q, %d, not %q, %d", s, got, e, want, wantErr)
		}
	}
}

func TestP2_2_FoldOfEachCharacter(t *testing.T) {
	for c := rune(0); c <= utf8.MaxRune; c++ {
		for _, s := range []string{string(c), "x" + string(c)} {
			want, wantErr := folded(s)
			if got, e := name.Fold(s); got != want || e != wantErr {
				t.Errorf("Fold(%q): %q, %d, not %q, %d", s, got, e, want, wantErr)
			}
		}
	}
}

func TestP2_3_Count(t *testing.T) {
	cases := []struct {
		s    string
		want int
	}{
		{"", 0},
		{"a", 1},
		{"aéb", 3},
		{"a\u00e9\xff", 3},
		{"\u20ac\U0001F600", 2},
		{"\ufffd", 1},
		{"\xef\xbf", 2},
		{"\xff\xff\xff", 3},
		{"\xed\xa0\x80", 3},
		{"\xf0\x9f\x98", 3},
		{"\xc3a", 2},
		{"\x00", 1},
		{strings.Repeat("é", 1<<16), 1 << 16},
		{strings.Repeat("\xc3", 1<<16), 1 << 16},
	}
	for _, c := range cases {
		if got := name.Count(c.s); got != c.want {
			t.Errorf("Count(%.40q): %d, not %d", c.s, got, c.want)
		}
	}
	for _, s := range texts() {
		if got := name.Count(s); got != len([]rune(s)) {
			t.Errorf("Count(%q): %d", s, got)
		}
	}
}

func TestP2_3_Cut(t *testing.T) {
	cases := []struct {
		s           string
		n           int
		first, rest string
	}{
		{"aéb", 2, "aé", "b"},
		{"aéb", 1, "a", "éb"},
		{"aéb", 3, "aéb", ""},
		{"aéb", 4, "aéb", ""},
		{"aéb", 0, "", "aéb"},
		{"aéb", -1, "", "aéb"},
		{"aéb", math.MaxInt, "aéb", ""},
		{"aéb", math.MinInt, "", "aéb"},
		{"ab", -1, "", "ab"},
		{"", 0, "", ""},
		{"", 1, "", ""},
		{"", -1, "", ""},
		{"", math.MinInt, "", ""},
		{"", math.MaxInt, "", ""},
		{"\xff\xfe", 1, "\xff", "\xfe"},
		{"\xc3\xc3\xa9", 1, "\xc3", "é"},
		{"é\xa9b", 1, "é", "\xa9b"},
		{"é\xa9b", 2, "é\xa9", "b"},
		{"\xef\xbf", 1, "\xef", "\xbf"},
		{"\ufffd\xbd", 1, "\ufffd", "\xbd"},
		{"\U0001F600\u20ac", 1, "\U0001F600", "\u20ac"},
		{"a\xf0\x9f\x98", 2, "a\xf0", "\x9f\x98"},
	}
	for _, c := range cases {
		if first, rest := name.Cut(c.s, c.n); first != c.first || rest != c.rest {
			t.Errorf("Cut(%q, %d): %q, %q, not %q, %q", c.s, c.n, first, rest, c.first, c.rest)
		}
	}
}

func TestP2_3_Less(t *testing.T) {
	// Of each pair the first one stands ahead.
	pairs := [][2]string{
		{"", "a"},
		{"a", "ab"},
		{"a", "b"},
		{"ab", "b"},
		{"Z", "a"},
		{"9", "_"},
		{"-", "0"},
		{"z", "\u00e9"},
		{"\u00ff", "\u03b1"},
		{"é", "éa"},
		{"aé", "aα"},
		{"\uffff", "\U00010000"},
		{"", "\xff"},
		{"a", "a\xff"},
		{strings.Repeat("a", 99) + "b", strings.Repeat("a", 98) + "b"},
		// What is no UTF-8 counts as U+FFFD: behind most characters, whatever its byte.
		{"é", "\x80"},
		{"\u20ac", "\xc3"},
		{"\xff", "\ufffe"},
		{"\xff", "\U00010000"},
		{"\xff", "\U0001F600"},
		// A beginning by runes stands ahead, though its bytes may be the greater ones.
		{"\xff", "\ufffda"},
		{"\xff", "\x80\x80"},
		{"\xffa", "\x80b"},
		{"\ufffd", "\xef\xbf"},
		// A text that is cut in the middle of a character: its last rune is another one.
		{"é", "\xc3"},
		{"aé", "a\xc3"},
		{"aéz", "a\xc3"},
		{"a\xf0\x9f\x98", "a\U0001F600"},
		// Runes that are alike: their bytes.
		{"\x80", "\xff"},
		{"\xef", "\ufffd"},
		{"\ufffd", "\xff"},
		{"\xc3", "\ufffd"},
		{"a\x80b", "a\x81b"},
		{"\xef\xbf", "\xef\xc0"},
		{"\x80\xff", "\x81\x80"},
	}
	for _, p := range pairs {
		if !name.Less(p[0], p[1]) {
			t.Errorf("Less(%q, %q): false", p[0], p[1])
		}
		if name.Less(p[1], p[0]) {
			t.Errorf("Less(%q, %q): true", p[1], p[0])
		}
	}
}

func TestP2_3_LessOfShortTexts(t *testing.T) {
	for _, a := range few(0, 29) {
		for _, b := range few(4, 23) {
			if got := name.Less(a, b); got != (order(a, b) < 0) {
				t.Errorf("Less(%q, %q): %t", a, b, got)
			}
		}
	}
	// Texts whose runes are alike are neighbours in their order.
	l := texts()
	slices.SortFunc(l, order)
	for i, b := range l[1:] {
		if a := l[i]; !name.Less(a, b) || name.Less(b, a) {
			t.Errorf("Less(%q, %q): %t; the other way round: %t", a, b, name.Less(a, b), name.Less(b, a))
		}
	}
}

func TestP2_4_FoldOfFoldIsFold(t *testing.T) {
	told := 0
	for _, s := range append(texts(), greats[:32], strings.Repeat("Ω", 32), "\u00c9lan", "\u03a3-9") {
		once, e := name.Fold(s)
		if e != api.OK {
			continue
		}
		told++
		if e := name.Check(once); e != api.OK {
			t.Errorf("Check of Fold(%q): %d", s, e)
		}
		if twice, e := name.Fold(once); twice != once || e != api.OK {
			t.Errorf("Fold of Fold(%q): %q, %d, not %q", s, twice, e, once)
		}
	}
	if told < 200 {
		t.Errorf("Fold told %d names alone", told)
	}
}

func TestP2_4_BothPartsOfCutMakeTheText(t *testing.T) {
	for _, s := range append(texts(), greats, strings.Repeat("\xc3", 40), strings.Repeat("é\xff", 20)) {
		runes := len([]rune(s))
		for n := -2; n <= runes+2; n++ {
			first, rest := name.Cut(s, n)
			if first+rest != s {
				t.Errorf("Cut(%q, %d): %q, %q", s, n, first, rest)
			}
			if want := min(max(n, 0), runes); name.Count(first) != want {
				t.Errorf("Cut(%q, %d): %q has %d runes, not %d", s, n, first, name.Count(first), want)
			}
		}
	}
}

func TestP2_4_LessIsAnOrder(t *testing.T) {
	l := few(3, 11)
	for _, a := range l {
		if name.Less(a, a) {
			t.Errorf("Less(%q, itself)", a)
		}
		for _, b := range l {
			if a != b && name.Less(a, b) == name.Less(b, a) {
				t.Errorf("Less(%q, %q) and the other way round: %t", a, b, name.Less(a, b))
			}
		}
	}
	// By the second reckoning each stands ahead of all behind it, so that whatever lies between two lies so for Less too.
	slices.SortFunc(l, order)
	for i, a := range l {
		for _, b := range l[i+1:] {
			if !name.Less(a, b) {
				t.Errorf("Less(%q, %q): false", a, b)
			}
		}
	}
}
