package num_test

import (
	"math"
	"math/big"
	"slices"
	"strconv"
	"strings"
	"testing"

	"hallmoot/api"
	"hallmoot/num"
)

// edges: numbers at and beside every end that the chapter names, and roots of MaxInt for products.
func edges() []int64 {
	l := []int64{0}
	for _, n := range []int64{1, 2, 3, 7, 10, 19, 1 << 30, 1<<31 - 1, 1 << 31, 1<<31 + 1, 1 << 32, 1<<61 - 1, 1 << 61, 1<<61 + 1, api.MaxInt - 1, api.MaxInt, api.MaxInt + 1, math.MaxInt64 - 1, math.MaxInt64} {
		l = append(l, n, -n)
	}
	return append(l, math.MinInt64)
}

// allowed: a second reckoning, which may be as slow as it likes.
func allowed(n *big.Int) bool {
	return n.CmpAbs(big.NewInt(api.MaxInt)) <= 0
}

func TestP1_1_AddSubMulAgainstBigNumbers(t *testing.T) {
	calls := []struct {
		name string
		call func(a, b int64) (int64, api.Errno)
		big  func(z, a, b *big.Int) *big.Int
	}{{"Add", num.Add, (*big.Int).Add}, {"Sub", num.Sub, (*big.Int).Sub}, {"Mul", num.Mul, (*big.Int).Mul}}
	for _, c := range calls {
		for _, a := range edges() {
			for _, b := range edges() {
				bigA, bigB := big.NewInt(a), big.NewInt(b)
				exact := c.big(new(big.Int), bigA, bigB)
				want, wantErr := int64(0), api.ErrOver
				if allowed(bigA) && allowed(bigB) && allowed(exact) {
					want, wantErr = exact.Int64(), api.OK
				}
				if n, e := c.call(a, b); n != want || e != wantErr {
					t.Errorf("%s(%d, %d): %d, %d, not %d, %d", c.name, a, b, n, e, want, wantErr)
				}
			}
		}
	}
}

func TestP1_1_Examples(t *testing.T) {
	cases := []struct {
		name string
		call func(a, b int64) (int64, api.Errno)
		a, b int64
		want int64
		e    api.Errno
	}{
		{"Add", num.Add, 40, 2, 42, api.OK},
		{"Add", num.Add, api.MaxInt - 1, 1, api.MaxInt, api.OK},
		{"Add", num.Add, api.MaxInt, 1, 0, api.ErrOver},
		{"Add", num.Add, api.MaxInt, api.MaxInt, 0, api.ErrOver},
		{"Add", num.Add, -api.MaxInt, -1, 0, api.ErrOver},
		{"Add", num.Add, -api.MaxInt, -api.MaxInt, 0, api.ErrOver},
		{"Add", num.Add, api.MaxInt + 1, -1, 0, api.ErrOver},
		{"Add", num.Add, -1, api.MaxInt + 1, 0, api.ErrOver},
		{"Add", num.Add, math.MinInt64, math.MaxInt64, 0, api.ErrOver},
		{"Sub", num.Sub, 2, 40, -38, api.OK},
		{"Sub", num.Sub, -api.MaxInt, -api.MaxInt, 0, api.OK},
		{"Sub", num.Sub, -api.MaxInt, 1, 0, api.ErrOver},
		{"Sub", num.Sub, api.MaxInt, -api.MaxInt, 0, api.ErrOver},
		{"Sub", num.Sub, api.MaxInt + 1, 1, 0, api.ErrOver},
		{"Sub", num.Sub, 0, math.MinInt64, 0, api.ErrOver},
		{"Sub", num.Sub, math.MinInt64, math.MinInt64, 0, api.ErrOver},
		{"Mul", num.Mul, -6, 7, -42, api.OK},
		{"Mul", num.Mul, 1 << 31, -1 << 31, -api.MaxInt, api.OK},
		{"Mul", num.Mul, 1 << 32, 1 << 32, 0, api.ErrOver},
		{"Mul", num.Mul, 0, math.MinInt64, 0, api.ErrOver},
		{"Mul", num.Mul, math.MinInt64, -1, 0, api.ErrOver},
	}
	for _, c := range cases {
		if n, e := c.call(c.a, c.b); n != c.want || e != c.e {
			t.Errorf("%s(%d, %d): %d, %d, not %d, %d", c.name, c.a, c.b, n, e, c.want, c.e)
		}
	}
}

func TestP1_1_Sum(t *testing.T) {
	cases := []struct {
		l    []int64
		want int64
		e    api.Errno
	}{
		{nil, 0, api.OK},
		{[]int64{}, 0, api.OK},
		{[]int64{5}, 5, api.OK},
		{[]int64{1, 2, 3, -10}, -4, api.OK},
		{[]int64{api.MaxInt}, api.MaxInt, api.OK},
		{[]int64{-api.MaxInt}, -api.MaxInt, api.OK},
		{[]int64{api.MaxInt + 1}, 0, api.ErrOver},
		{[]int64{math.MinInt64}, 0, api.ErrOver},
		{[]int64{api.MaxInt, 0}, api.MaxInt, api.OK},
		{[]int64{api.MaxInt, 1}, 0, api.ErrOver},
		{[]int64{api.MaxInt, 1, -1}, 0, api.ErrOver},
		{[]int64{api.MaxInt, -1, 1}, api.MaxInt, api.OK},
		{[]int64{-api.MaxInt, -1, 1}, 0, api.ErrOver},
		{[]int64{1, math.MaxInt64, -5}, 0, api.ErrOver},
		{[]int64{-api.MaxInt, math.MaxInt64}, 0, api.ErrOver},
		{[]int64{api.MaxInt, api.MaxInt, api.MaxInt, api.MaxInt}, 0, api.ErrOver},
		{[]int64{api.MaxInt, -api.MaxInt, -api.MaxInt, api.MaxInt, 9}, 9, api.OK},
	}
	for _, c := range cases {
		given := slices.Clone(c.l)
		if n, e := num.Sum(c.l...); n != c.want || e != c.e {
			t.Errorf("Sum(%d): %d, %d, not %d, %d", c.l, n, e, c.want, c.e)
		}
		if !slices.Equal(c.l, given) {
			t.Errorf("Sum(%d): its list is changed to %d", given, c.l)
		}
	}
	if n, e := num.Sum(); n != 0 || e != api.OK {
		t.Errorf("Sum(): %d, %d", n, e)
	}
}

func TestP1_1_Within(t *testing.T) {
	cases := []struct {
		n, least, most int64
		want           bool
	}{
		{5, 1, 9, true},
		{1, 1, 9, true},
		{9, 1, 9, true},
		{0, 1, 9, false},
		{10, 1, 9, false},
		{-3, -3, -3, true},
		{5, 9, 1, false},
		{9, 9, 1, false},
		{1, 9, 1, false},
		{math.MinInt64, math.MinInt64, math.MaxInt64, true},
		{math.MaxInt64, math.MinInt64, math.MaxInt64, true},
		{math.MinInt64, 0, math.MaxInt64, false},
		{math.MaxInt64, math.MinInt64, 0, false},
		{math.MaxInt64, math.MaxInt64, math.MinInt64, false},
		{0, math.MinInt64, -1, false},
	}
	for _, c := range cases {
		if got := num.Within(c.n, c.least, c.most); got != c.want {
			t.Errorf("Within(%d, %d, %d): %t", c.n, c.least, c.most, got)
		}
	}
}

func TestP1_2_Print(t *testing.T) {
	cases := []struct {
		n    int64
		want string
	}{
		{0, "0"},
		{7, "7"},
		{-7, "-7"},
		{10, "10"},
		{-1002, "-1002"},
		{api.MaxInt, "4611686018427387904"},
		{-api.MaxInt, "-4611686018427387904"},
		{api.MaxInt + 1, "4611686018427387905"},
		{math.MaxInt64, "9223372036854775807"},
		{math.MinInt64, "-9223372036854775808"},
	}
	for _, c := range cases {
		if got := num.Print(c.n); got != c.want {
			t.Errorf("Print(%d): %q", c.n, got)
		}
	}
}

func TestP1_2_ReadTellsNumbers(t *testing.T) {
	cases := []struct {
		s           string
		least, most int64
		want        int64
	}{
		{"0", 0, 0, 0},
		{"7", 0, 9, 7},
		{"-7", -9, 9, -7},
		{"10", -20, 20, 10},
		{"-20", -20, 20, -20},
		{"20", -20, 20, 20},
		{"1234567890", 0, api.MaxInt, 1234567890},
		{"4611686018427387905", 0, math.MaxInt64, api.MaxInt + 1},
		{"9223372036854775807", math.MinInt64, math.MaxInt64, math.MaxInt64},
		{"-9223372036854775807", math.MinInt64, math.MaxInt64, -math.MaxInt64},
		{"-9223372036854775808", math.MinInt64, math.MaxInt64, math.MinInt64},
		{"-9223372036854775808", math.MinInt64, math.MinInt64, math.MinInt64},
	}
	for _, c := range cases {
		if n, e := num.Read(c.s, c.least, c.most); n != c.want || e != api.OK {
			t.Errorf("Read(%q, %d, %d): %d, %d", c.s, c.least, c.most, n, e)
		}
	}
}

func TestP1_2_ReadOver(t *testing.T) {
	cases := []struct {
		s           string
		least, most int64
	}{
		{"21", -20, 20},
		{"-21", -20, 20},
		{"0", 1, 9},
		{"0", -9, -1},
		{"5", 9, 1},
		{"9", 9, 1},
		{"1", 9, 1},
		{"4611686018427387905", 0, api.MaxInt},
		{"9223372036854775808", math.MinInt64, math.MaxInt64},
		{"9223372036854775809", math.MinInt64, math.MaxInt64},
		{"-9223372036854775809", math.MinInt64, math.MaxInt64},
		{"9223372036854775810", math.MinInt64, math.MaxInt64},
		{"-9223372036854775810", math.MinInt64, math.MaxInt64},
		{"10000000000000000000", math.MinInt64, math.MaxInt64},
		{"18446744073709551616", math.MinInt64, math.MaxInt64},
		{"18446744073709551617", math.MinInt64, math.MaxInt64},
		{"-18446744073709551617", math.MinInt64, math.MaxInt64},
		{"99999999999999999999", -20, 20},
		{"1" + strings.Repeat("0", 100000), math.MinInt64, math.MaxInt64},
		{"-" + strings.Repeat("9", 100000), math.MinInt64, math.MaxInt64},
		{strings.Repeat("9", 100000), 9, 1},
	}
	for _, c := range cases {
		if n, e := num.Read(c.s, c.least, c.most); n != 0 || e != api.ErrOver {
			t.Errorf("Read(%.40q, %d, %d): %d, %d", c.s, c.least, c.most, n, e)
		}
	}
}

func TestP1_2_ReadForm(t *testing.T) {
	texts := []string{
		"", "-", "--", "--8", "8-", "1-2", "-0", "00", "-00", "007", "-007", "01", "-01", "+1", "+0", "0x1F", "1e3", "1.0", "1_000", "0b1", "0-",
		" 1", "1 ", " ", "1 2", "1\n", "\n1", "-\t1", "1\x00", "\x00", "x", "1x", "x1", "-x", "12:", "12/", ":", "/", "a", "NaN",
		"\u0661", "1\u0662", "\uff11", "1\uff12", "\u0e51", "\u00b2", "\u2212" + "1", "\u200b1", "\ufeff1", "1\ufffd",
		"\x80", "1\xff", "\xff1", "1\xc3", "-\xe2\x88", "1\xf0\x9d\x9f\x8f", "\xc0\xb1", "1\xed\xa0\x80",
		strings.Repeat("0", 100000),
		"0" + strings.Repeat("9", 100000),
		"-0" + strings.Repeat("9", 100000),
		strings.Repeat("9", 100000) + "x",
		strings.Repeat("9", 100000) + "\xff",
		"99999999999999999999 ",
		"-99999999999999999999-",
	}
	for _, s := range texts {
		for _, ends := range [][2]int64{{math.MinInt64, math.MaxInt64}, {-20, 20}, {5, 5}, {9, 1}} {
			if n, e := num.Read(s, ends[0], ends[1]); n != 0 || e != api.ErrForm {
				t.Errorf("Read(%.40q, %d, %d): %d, %d", s, ends[0], ends[1], n, e)
			}
		}
	}
}

// Each text of up to three of these bytes is read, and held against the library's reading.
func TestP1_2_ReadAllShortTexts(t *testing.T) {
	letters := []string{"", "-", "+", "0", "1", "9", "/", ":", " ", "x", "\xff", "\u0661"}
	for _, a := range letters {
		for _, b := range letters {
			for _, c := range letters {
				s := a + b + c
				want, fault := strconv.ParseInt(s, 10, 64)
				wantErr := api.OK
				if fault != nil || strconv.FormatInt(want, 10) != s {
					want, wantErr = 0, api.ErrForm
				}
				if n, e := num.Read(s, -1000, 1000); n != want || e != wantErr {
					t.Errorf("Read(%q): %d, %d, not %d, %d", s, n, e, want, wantErr)
				}
			}
		}
	}
}

func TestP1_3_SubTakesBackWhatAddTells(t *testing.T) {
	told := 0
	for _, a := range edges() {
		for _, b := range edges() {
			sum, e := num.Add(a, b)
			if e != api.OK {
				continue
			}
			told++
			if n, e := num.Sub(sum, b); n != a || e != api.OK {
				t.Errorf("Sub(%d, %d): %d, %d, not %d", sum, b, n, e, a)
			}
			if n, e := num.Sub(sum, a); n != b || e != api.OK {
				t.Errorf("Sub(%d, %d): %d, %d, not %d", sum, a, n, e, b)
			}
		}
	}
	if told < 500 {
		t.Errorf("Add told %d sums alone", told)
	}
}

func TestP1_3_ReadOfPrintIsTheNumber(t *testing.T) {
	l := edges()
	for n := int64(-1100); n <= 1100; n++ {
		l = append(l, n)
	}
	for n := int64(math.MaxInt64); n != 0; n /= 3 {
		l = append(l, n, -n)
	}
	for _, n := range l {
		s := num.Print(n)
		if got, e := num.Read(s, math.MinInt64, math.MaxInt64); got != n || e != api.OK {
			t.Errorf("Read(%q): %d, %d, not %d", s, got, e, n)
		}
		if got, e := num.Read(s, n, n); got != n || e != api.OK {
			t.Errorf("Read(%q, itself, itself): %d, %d, not %d", s, got, e, n)
		}
	}
}
