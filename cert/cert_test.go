package cert_test

import (
	"encoding/binary"
	"math"
	"math/big"
	"slices"
	"strings"
	"testing"

	"hallmoot/api"
	"hallmoot/cert"
	"hallmoot/wire"
)

// aRegular: one that may be.
func aRegular() api.Cert {
	return api.Cert{Kind: api.Regular, Block: 5, View: 2, Round: 7, Signers: 0xb}
}

// aFallback: one that may be, not endorsed.
func aFallback() api.Cert {
	return api.Cert{Kind: api.Fallback, Block: 6, View: 3, Round: 9, Height: 2, Author: 1, Signers: 7}
}

// anEndorsed: one that may be.
func anEndorsed() api.Cert {
	c := aFallback()
	c.Coin = 3
	return c
}

// field: one of a certificate's whole numbers, and where it stands.
type field struct {
	name string
	of   func(c *api.Cert) *int
}

// fields: the whole numbers, but the kind.
func fields() []field {
	return []field{
		{"Block", func(c *api.Cert) *int { return &c.Block }},
		{"View", func(c *api.Cert) *int { return &c.View }},
		{"Round", func(c *api.Cert) *int { return &c.Round }},
		{"Height", func(c *api.Cert) *int { return &c.Height }},
		{"Author", func(c *api.Cert) *int { return &c.Author }},
	}
}

// bounds: of each of these fields the least and the greatest that may be, by kind, written out.
func bounds(kind int, name string) (int, int) {
	switch {
	case kind == api.Genesis:
		return 0, 0
	case name == "Block":
		return 1, 2147483647
	case name == "View":
		return 1, 1048576
	case name == "Round":
		return 1, 1073741824
	case kind == api.Regular:
		return 0, 0
	case name == "Height":
		return 1, 3
	}
	return 0, 9
}

// numbers: some of all sizes, with those that are something else when they are cut to 32 bits.
func numbers() []int {
	l := []int{0, 1, 2, 3, 4, 5, 7, 8, 9, 10, 11, 31, 32, 63, 64, 127, 128, 255, 256, 300, 1<<20 - 1, 1 << 20, 1<<20 + 1, 1<<30 - 1, 1 << 30, 1<<30 + 1, 1<<31 - 2, 1<<31 - 1, 1 << 31, 1<<31 + 1,
		1<<32 - 1, 1 << 32, 1<<32 + 1, 1<<32 + 2, 1<<32 + 3, 1<<33 + 1, 1<<62 - 1, 1 << 62, 1<<62 + 1, math.MaxInt - 1, math.MaxInt}
	for _, n := range slices.Clone(l) {
		l = append(l, -n, -n-1)
	}
	return l
}

// sets: of replicas that may be there: none, each one, all, all but each one, and some more.
func sets() []uint32 {
	l := []uint32{0, 0x3ff, 0x155, 0x2aa, 7, 0xb, 0x7f, 0x80, 0xff, 0x100}
	for k := range 10 {
		l = append(l, 1<<k, 0x3ff&^(1<<k))
	}
	return l
}

// noSets: with a bit from MaxN on, alone, with replicas, and all of them.
func noSets() []uint32 {
	l := []uint32{math.MaxUint32, math.MaxUint32 &^ 0x3ff, 0x7ff, 0x80000000 | 0x3ff}
	for k := 10; k < 32; k++ {
		l = append(l, 1<<k, 1<<k|1, 1<<k|0x3ff)
	}
	return l
}

// rights: certificates that may be, each number of each kind at each of its edges.
func rights() []api.Cert {
	l := []api.Cert{{}, aRegular(), aFallback(), anEndorsed()}
	for _, base := range []api.Cert{aRegular(), aFallback(), anEndorsed()} {
		for _, f := range fields() {
			least, most := bounds(base.Kind, f.name)
			for _, n := range append(numbers(), least, most, least+1, most-1) {
				c := base
				*f.of(&c) = n
				if least <= n && n <= most {
					l = append(l, c)
				}
			}
		}
		for _, set := range sets() {
			signed, seen := base, base
			signed.Signers, seen.Coin = set, set
			if set != 0 {
				l = append(l, signed)
			}
			if base.Kind == api.Fallback {
				l = append(l, seen)
			}
		}
	}
	// All numbers at their least ones, and at their greatest.
	return append(l, api.Cert{Kind: 1, Block: 1, View: 1, Round: 1, Signers: 1}, api.Cert{Kind: 1, Block: 1<<31 - 1, View: api.MaxView, Round: api.MaxRound, Signers: 0x3ff},
		api.Cert{Kind: 2, Block: 1, View: 1, Round: 1, Height: 1, Signers: 1}, api.Cert{Kind: 2, Block: 1<<31 - 1, View: api.MaxView, Round: api.MaxRound, Height: 3, Author: 9, Signers: 0x3ff, Coin: 0x3ff})
}

// wrongs: certificates that may not be, by one number each.
func wrongs() []api.Cert {
	var l []api.Cert
	for _, base := range []api.Cert{{}, aRegular(), aFallback(), anEndorsed()} {
		for _, f := range fields() {
			least, most := bounds(base.Kind, f.name)
			for _, n := range append(numbers(), least-1, most+1) {
				c := base
				*f.of(&c) = n
				if n < least || n > most {
					l = append(l, c)
				}
			}
		}
		for _, set := range append(noSets(), 0) {
			c := base
			if c.Signers = set; base.Kind != api.Genesis || set != 0 {
				l = append(l, c)
			}
		}
		for _, set := range noSets() {
			c := base
			c.Coin = set
			l = append(l, c)
		}
		for _, kind := range noKinds() {
			c := base
			c.Kind = kind
			l = append(l, c)
		}
	}
	return append(l, ofAnotherKind()...)
}

// noKinds: numbers of no kind.
func noKinds() []int {
	return slices.DeleteFunc(numbers(), func(n int) bool { return n == 0 || n == 1 || n == 2 })
}

// ofAnotherKind: certificates that may not be, since they have what their kind hasn't.
func ofAnotherKind() []api.Cert {
	var l []api.Cert
	for _, set := range sets()[1:] {
		l = append(l, api.Cert{Signers: set}, api.Cert{Coin: set})
		regular := aRegular()
		regular.Coin = set
		l = append(l, regular)
	}
	turned := []api.Cert{aRegular(), aFallback(), anEndorsed()}
	for _, c := range turned {
		c.Kind = api.Genesis
		l = append(l, c)
	}
	turned[0].Kind, turned[1].Kind, turned[2].Kind = api.Fallback, api.Regular, api.Regular
	return append(l, turned...)
}

// right: a second reckoning of what may be.
func right(c api.Cert) bool {
	sane := func(set uint32) bool { return set < 1024 }
	for _, f := range fields() {
		if least, most := bounds(c.Kind, f.name); *f.of(&c) < least || *f.of(&c) > most {
			return false
		}
	}
	switch c.Kind {
	case 0:
		return c.Signers == 0 && c.Coin == 0
	case 1:
		return c.Signers != 0 && sane(c.Signers) && c.Coin == 0
	case 2:
		return c.Signers != 0 && sane(c.Signers) && sane(c.Coin)
	}
	return false
}

// row: a certificate's numbers in the order in which they are written, as many as its kind has.
func row(c api.Cert) []uint64 {
	l := []uint64{uint64(c.Kind), uint64(c.Block), uint64(c.View), uint64(c.Round), uint64(c.Signers), uint64(c.Height), uint64(c.Author), uint64(c.Coin)}
	return l[:[]int{1, 5, 8}[c.Kind]]
}

// written: the bytes of numbers, by the library's numbers of this form.
func written(l ...uint64) string {
	var b []byte
	for _, n := range l {
		b = binary.AppendUvarint(b, n)
	}
	return string(b)
}

// bytesOf: a second reckoning of the bytes of one of the three kinds, which also writes what may not be, if its numbers aren't below 0.
func bytesOf(c api.Cert) string { return written(row(c)...) }

// model: a second reckoning of a reader, which keeps a place, and of what is taken of it.
type model struct {
	all    string
	at     int
	failed api.Errno
}

// num: the next number, as big as it may be.
func (m *model) num() uint64 {
	if m.failed != api.OK {
		return 0
	}
	rest := m.all[m.at:]
	// All bytes from 128 on come as runes that aren't below 128, of whatever width: the first smaller one ends the number.
	size := strings.IndexFunc(rest, func(c rune) bool { return c < 128 }) + 1
	n, _ := binary.Uvarint([]byte(rest[:size]))
	switch {
	case size == 0 && len(rest) < 10:
		m.failed = api.ErrCut
		return 0
	case size == 0 || size > 9 || n > 1<<62 || written(n) != rest[:size]:
		m.failed = api.ErrCode
		return 0
	}
	m.at += size
	return n
}

// take: the next certificate.
func (m *model) take() api.Cert {
	l := []uint64{m.num()}
	if l[0] > 2 && m.failed == api.OK {
		m.failed = api.ErrCert
	}
	if m.failed == api.OK {
		for range []int{0, 4, 7}[l[0]] {
			l = append(l, m.num())
		}
	}
	if m.failed != api.OK {
		return api.Cert{}
	}
	l = append(l, 0, 0, 0, 0, 0, 0, 0)
	c := api.Cert{Kind: int(l[0]), Block: int(l[1]), View: int(l[2]), Round: int(l[3]), Signers: uint32(l[4]), Height: int(l[5]), Author: int(l[6]), Coin: uint32(l[7])}
	if l[4] > math.MaxUint32 || l[7] > math.MaxUint32 || !right(c) {
		m.failed = api.ErrCert
		return api.Cert{}
	}
	return c
}

// done: the error, and how many bytes are left.
func (m *model) done() (api.Errno, int) {
	rest := len(m.all) - m.at
	switch {
	case m.failed != api.OK:
		return m.failed, 0
	case rest > 0:
		return api.ErrTail, rest
	}
	return api.OK, 0
}

// taken: is this one taken of a reader, and is it left with so many bytes and this error?
func taken(t *testing.T, r *wire.Reader, want api.Cert, rest int, done api.Errno) {
	t.Helper()
	if c, left, e := cert.Take(r), r.Rest(), r.Done(); c != want || left != rest || e != done {
		t.Errorf("Take: %+v, %d bytes left, error %d, not %+v, %d, %d", c, left, e, want, rest, done)
	}
}

// refused: is a zero one taken of these bytes, beside this error, with nothing left?
func refused(t *testing.T, s string, want api.Errno) {
	t.Helper()
	r := wire.New([]byte(s))
	if c, left, e := cert.Take(r), r.Rest(), r.Done(); c != (api.Cert{}) || left != 0 || e != want {
		t.Errorf("Take of %.40q: %+v, %d bytes left, error %d, not %d", s, c, left, e, want)
	}
}

// alike: are certificates taken of these bytes, till none is left, as by the second reckoning? How many are counted.
func alike(t *testing.T, s string) int {
	t.Helper()
	r, m := wire.New([]byte(s)), &model{all: s}
	for count := 0; ; count++ {
		got, want := cert.Take(r), m.take()
		e, rest := m.done()
		if got != want || r.Done() != e || r.Rest() != rest {
			t.Errorf("Take number %d of %.60q: %+v, error %d, %d left, not %+v, error %d, %d left", count, s, got, r.Done(), r.Rest(), want, e, rest)
			return count
		}
		switch e {
		case api.OK:
			return count + 1
		case api.ErrTail:
			continue
		}
		return count
	}
}

// checked: does Check tell this, and the second reckoning, too?
func checked(t *testing.T, c api.Cert, want api.Errno) {
	t.Helper()
	if e := cert.Check(c); e != want {
		t.Errorf("Check(%+v): error %d, not %d", c, e, want)
	}
	if right(c) != (want == api.OK) {
		t.Errorf("%+v: %t by the second reckoning", c, right(c))
	}
}

// TestP11_1_CheckOfRightOnes: each number at each of its edges.
func TestP11_1_CheckOfRightOnes(t *testing.T) {
	for _, c := range rights() {
		checked(t, c, api.OK)
	}
}

// TestP11_1_CheckOfWrongOnes: one number is out of its bounds.
func TestP11_1_CheckOfWrongOnes(t *testing.T) {
	for _, c := range wrongs() {
		checked(t, c, api.ErrCert)
	}
}

// TestP11_1_CheckWrittenOut: the edges, by hand.
func TestP11_1_CheckWrittenOut(t *testing.T) {
	for _, c := range []struct {
		c    api.Cert
		want api.Errno
	}{
		{api.Cert{}, api.OK},
		{api.Cert{Block: 1}, api.ErrCert},
		{api.Cert{View: 1}, api.ErrCert},
		{api.Cert{Round: 1}, api.ErrCert},
		{api.Cert{Height: 1}, api.ErrCert},
		{api.Cert{Author: 1}, api.ErrCert},
		{api.Cert{Signers: 1}, api.ErrCert},
		{api.Cert{Coin: 1}, api.ErrCert},
		{api.Cert{Kind: 1}, api.ErrCert},
		{api.Cert{Kind: 2}, api.ErrCert},
		{api.Cert{Kind: -1}, api.ErrCert},
		{api.Cert{Kind: 3}, api.ErrCert},
		{api.Cert{Kind: 1, Block: 1, View: 1, Round: 1, Signers: 1}, api.OK},
		{api.Cert{Kind: 1, Block: 0, View: 1, Round: 1, Signers: 1}, api.ErrCert},
		{api.Cert{Kind: 1, Block: 2147483647, View: 1, Round: 1, Signers: 1}, api.OK},
		{api.Cert{Kind: 1, Block: 2147483648, View: 1, Round: 1, Signers: 1}, api.ErrCert},
		{api.Cert{Kind: 1, Block: 1, View: 0, Round: 1, Signers: 1}, api.ErrCert},
		{api.Cert{Kind: 1, Block: 1, View: 1048576, Round: 1, Signers: 1}, api.OK},
		{api.Cert{Kind: 1, Block: 1, View: 1048577, Round: 1, Signers: 1}, api.ErrCert},
		{api.Cert{Kind: 1, Block: 1, View: 1, Round: 0, Signers: 1}, api.ErrCert},
		{api.Cert{Kind: 1, Block: 1, View: 1, Round: 1073741824, Signers: 1}, api.OK},
		{api.Cert{Kind: 1, Block: 1, View: 1, Round: 1073741825, Signers: 1}, api.ErrCert},
		{api.Cert{Kind: 1, Block: 1, View: 1, Round: 1, Signers: 0}, api.ErrCert},
		{api.Cert{Kind: 1, Block: 1, View: 1, Round: 1, Signers: 1023}, api.OK},
		{api.Cert{Kind: 1, Block: 1, View: 1, Round: 1, Signers: 512}, api.OK},
		{api.Cert{Kind: 1, Block: 1, View: 1, Round: 1, Signers: 1024}, api.ErrCert},
		{api.Cert{Kind: 1, Block: 1, View: 1, Round: 1, Signers: 1, Height: 1}, api.ErrCert},
		{api.Cert{Kind: 1, Block: 1, View: 1, Round: 1, Signers: 1, Author: 1}, api.ErrCert},
		{api.Cert{Kind: 1, Block: 1, View: 1, Round: 1, Signers: 1, Coin: 1}, api.ErrCert},
		{api.Cert{Kind: 2, Block: 1, View: 1, Round: 1, Signers: 1, Height: 1}, api.OK},
		{api.Cert{Kind: 2, Block: 1, View: 1, Round: 1, Signers: 1, Height: 0}, api.ErrCert},
		{api.Cert{Kind: 2, Block: 1, View: 1, Round: 1, Signers: 1, Height: 3}, api.OK},
		{api.Cert{Kind: 2, Block: 1, View: 1, Round: 1, Signers: 1, Height: 4}, api.ErrCert},
		{api.Cert{Kind: 2, Block: 1, View: 1, Round: 1, Signers: 1, Height: 1, Author: -1}, api.ErrCert},
		{api.Cert{Kind: 2, Block: 1, View: 1, Round: 1, Signers: 1, Height: 1, Author: 9}, api.OK},
		{api.Cert{Kind: 2, Block: 1, View: 1, Round: 1, Signers: 1, Height: 1, Author: 10}, api.ErrCert},
		{api.Cert{Kind: 2, Block: 1, View: 1, Round: 1, Signers: 0, Height: 1, Coin: 1}, api.ErrCert},
		{api.Cert{Kind: 2, Block: 1, View: 1, Round: 1, Signers: 1, Height: 1, Coin: 1023}, api.OK},
		{api.Cert{Kind: 2, Block: 1, View: 1, Round: 1, Signers: 1, Height: 1, Coin: 1024}, api.ErrCert},
	} {
		checked(t, c.c, c.want)
	}
}

// grid: calls f with all certificates whose numbers stand at or beside their edges.
func grid(f func(c api.Cert)) {
	small := []uint32{0, 1, 0x3ff, 0x400}
	for kind := -1; kind <= 3; kind++ {
		for _, block := range []int{-1, 0, 1, 1<<31 - 1, 1 << 31} {
			for _, view := range []int{-1, 0, 1, api.MaxView, api.MaxView + 1} {
				for _, round := range []int{-1, 0, 1, api.MaxRound, api.MaxRound + 1} {
					for height := -1; height <= 4; height++ {
						for _, author := range []int{-1, 0, 1, 9, 10} {
							for k := range 16 {
								f(api.Cert{Kind: kind, Block: block, View: view, Round: round, Height: height, Author: author, Signers: small[k%4], Coin: small[k/4]})
							}
						}
					}
				}
			}
		}
	}
}

// TestP11_1_CheckOfAllEdges: together, held against a second reckoning.
func TestP11_1_CheckOfAllEdges(t *testing.T) {
	count := 0
	grid(func(c api.Cert) {
		e := cert.Check(c)
		if right(c) {
			count++
		}
		if right(c) != (e == api.OK) || e != api.OK && e != api.ErrCert {
			t.Errorf("Check(%+v): error %d", c, e)
		}
	})
	// Of Block, View, Round and Signers two may be; of Fallback also three of Height, three of Author, three of Coin.
	if want := 1 + 16 + 16*27; count != want {
		t.Errorf("%d may be, not %d", count, want)
	}
}

// TestP11_1_Endorsed: Fallback and with a Coin, whatever else there is.
func TestP11_1_Endorsed(t *testing.T) {
	for c, want := range map[api.Cert]bool{
		{}: false, aRegular(): false, aFallback(): false, anEndorsed(): true,
		{Coin: 1}: false, {Kind: 1, Coin: 1}: false, {Kind: 2}: false, {Kind: 2, Coin: 1}: true, {Kind: 2, Signers: 7}: false,
		{Kind: 3, Coin: 1}: false, {Kind: -1, Coin: 1}: false, {Kind: -2, Coin: 1}: false, {Kind: 1<<32 + 2, Coin: 1}: false,
		{Kind: 2, Coin: 1 << 31}: true, {Kind: 2, Coin: math.MaxUint32}: true, {Kind: 2, Coin: 1 << 10}: true,
	} {
		if got := cert.Endorsed(c); got != want {
			t.Errorf("Endorsed(%+v): %t", c, got)
		}
	}
	for _, c := range slices.Concat(rights(), wrongs()) {
		for _, coin := range slices.Concat(sets(), noSets()) {
			c.Coin = coin
			if got := cert.Endorsed(c); got != (c.Kind == 2 && coin > 0) {
				t.Errorf("Endorsed(%+v): %t", c, got)
			}
		}
	}
}

// TestP11_1_Stmt: written out, of each kind.
func TestP11_1_Stmt(t *testing.T) {
	full := api.Cert{Block: 300, View: 3, Round: 9, Height: 2, Author: 1, Signers: 7, Coin: 3}
	negative := api.Cert{Block: -300, View: -3, Round: -9, Height: -2, Author: -1, Signers: 1 << 31}
	for _, c := range []struct {
		kind int
		of   api.Cert
		want api.Stmt
	}{
		{1, full, api.Stmt{Kind: 2, Block: 300, View: 3, Round: 9}},
		{2, full, api.Stmt{Kind: 4, Block: 300, View: 3, Round: 9, Height: 2, Author: 1}},
		{1, negative, api.Stmt{Kind: 2, Block: -300, View: -3, Round: -9}},
		{2, negative, api.Stmt{Kind: 4, Block: -300, View: -3, Round: -9, Height: -2, Author: -1}},
		{1, api.Cert{}, api.Stmt{Kind: 2}},
		{2, api.Cert{}, api.Stmt{Kind: 4}},
	} {
		c.of.Kind = c.kind
		if s := cert.Stmt(c.of); s != c.want {
			t.Errorf("Stmt(%+v): %+v", c.of, s)
		}
	}
	for _, kind := range append(noKinds(), api.Genesis) {
		for _, c := range []api.Cert{full, negative, {}} {
			c.Kind = kind
			if s := cert.Stmt(c); s != (api.Stmt{}) {
				t.Errorf("Stmt(%+v): %+v", c, s)
			}
		}
	}
}

// TestP11_1_StmtOfAny: of certificates that may be none, too; sets change nothing.
func TestP11_1_StmtOfAny(t *testing.T) {
	for _, c := range slices.Concat(rights(), wrongs()) {
		want := api.Stmt{}
		if c.Kind == 1 || c.Kind == 2 {
			want = api.Stmt{Kind: 2 * c.Kind, Block: c.Block, View: c.View, Round: c.Round}
		}
		if c.Kind == 2 {
			want.Height, want.Author = c.Height, c.Author
		}
		if s := cert.Stmt(c); s != want {
			t.Errorf("Stmt(%+v): %+v, not %+v", c, s, want)
		}
		if s := cert.Stmt(cert.Plain(c)); s != want {
			t.Errorf("Stmt of Plain(%+v): %+v, not %+v", c, s, want)
		}
	}
}

// TestP11_1_Plain: of what has neither set, one, and both.
func TestP11_1_Plain(t *testing.T) {
	bare := aFallback()
	bare.Signers = 0
	for _, signers := range []uint32{0, 1, 7, 0x3ff, math.MaxUint32} {
		for _, coin := range []uint32{0, 1, 3, 0x3ff, math.MaxUint32} {
			c := bare
			c.Signers, c.Coin = signers, coin
			if got := cert.Plain(c); got != bare {
				t.Errorf("Plain(%+v): %+v", c, got)
			}
		}
	}
	for _, c := range slices.Concat(rights(), wrongs()) {
		want := api.Cert{Kind: c.Kind, Block: c.Block, View: c.View, Round: c.Round, Height: c.Height, Author: c.Author}
		if got := cert.Plain(c); got != want || cert.Plain(got) != want {
			t.Errorf("Plain(%+v): %+v", c, got)
		}
	}
}

// ladder: each one is above those ahead of it, by View, by whether it is Fallback, by Round.
func ladder() []api.Cert {
	return []api.Cert{
		{Kind: 2, View: math.MinInt, Round: math.MaxInt},
		{Kind: 2, View: -1, Round: 5},
		{},
		{Kind: 1, View: 1, Round: math.MinInt},
		{Kind: 1, View: 1, Round: -1},
		{Kind: 1, View: 1},
		{Kind: 1, Block: 9, View: 1, Round: 1, Signers: 7},
		{Kind: 1, Block: 2, View: 1, Round: 2, Signers: 1},
		{Kind: 1, Block: 1, View: 1, Round: api.MaxRound, Signers: 0x3ff},
		{Kind: 1, View: 1, Round: math.MaxInt},
		{Kind: 2, View: 1, Round: math.MinInt},
		{Kind: 2, Block: 3, View: 1, Round: 1, Height: 3, Author: 9, Signers: 7, Coin: 7},
		{Kind: 2, Block: 4, View: 1, Round: 2, Height: 1, Signers: 7},
		{Kind: 2, Block: 5, View: 1, Round: api.MaxRound, Height: 2, Signers: 7},
		{Kind: 1, Block: 1, View: 2, Round: 1, Signers: 1},
		{Kind: 1, Block: 8, View: 3, Round: 20, Signers: 7},
		{Kind: 2, Block: 7, View: 3, Round: 9, Height: 2, Signers: 7},
		{Kind: 1, Block: 6, View: 4, Round: 10, Signers: 7},
		{Kind: 1, Block: 6, View: api.MaxView, Round: 1, Signers: 7},
		{Kind: 2, Block: 6, View: api.MaxView, Round: 1, Height: 1, Signers: 7},
		{Kind: 2, Block: 6, View: api.MaxView, Round: api.MaxRound, Height: 1, Signers: 7},
		{Kind: 1, View: 1 << 32, Round: 1},
		{Kind: 1, View: math.MaxInt, Round: math.MinInt},
		{Kind: 2, View: math.MaxInt, Round: math.MinInt},
		{Kind: 2, View: math.MaxInt, Round: math.MaxInt},
	}
}

// TestP11_2_Examples: of the chapter.
func TestP11_2_Examples(t *testing.T) {
	c, below, above := api.Cert{Kind: api.Fallback, View: 3, Round: 9}, api.Cert{Kind: api.Regular, View: 3, Round: 20}, api.Cert{Kind: api.Regular, View: 4, Round: 10}
	if cert.Cmp(c, below) != 1 || cert.Cmp(below, c) != -1 || cert.Cmp(c, above) != -1 || cert.Cmp(above, c) != 1 {
		t.Errorf("Cmp: %d, %d, %d, %d", cert.Cmp(c, below), cert.Cmp(below, c), cert.Cmp(c, above), cert.Cmp(above, c))
	}
}

// TestP11_2_Ladder: of any two the one that stands behind is above, and is Max, whichever comes first.
func TestP11_2_Ladder(t *testing.T) {
	l := ladder()
	for i, a := range l {
		for k, b := range l {
			want, higher := 0, a
			switch {
			case i < k:
				want, higher = -1, b
			case i > k:
				want = 1
			}
			if n := cert.Cmp(a, b); n != want {
				t.Errorf("Cmp(%+v, %+v): %d, not %d", a, b, n, want)
			}
			if c := cert.Max(a, b); c != higher {
				t.Errorf("Max(%+v, %+v): %+v", a, b, c)
			}
		}
	}
}

// weighed: a second reckoning of a rank, as one big number.
func weighed(c api.Cert) *big.Int {
	sum, above := big.NewInt(int64(c.View)), map[int]int{api.Fallback: 1}
	for _, n := range []int{above[c.Kind], c.Round} {
		// So far apart that no number reaches into the one ahead of it.
		sum.Lsh(sum, 70)
		sum.Add(sum, big.NewInt(int64(n)))
	}
	return sum
}

// ranked: do Cmp and Max of two tell what a second reckoning does, also turned round?
func ranked(t *testing.T, a, b api.Cert) {
	t.Helper()
	want := weighed(a).Cmp(weighed(b))
	if n, turned := cert.Cmp(a, b), cert.Cmp(b, a); n != want || turned != -want {
		t.Errorf("Cmp(%+v, %+v): %d, turned round %d, not %d", a, b, n, turned, want)
	}
	first, second := a, b
	if want < 0 {
		first = b
	}
	if want > 0 {
		second = a
	}
	if c, turned := cert.Max(a, b), cert.Max(b, a); c != first || turned != second {
		t.Errorf("Max(%+v, %+v): %+v, turned round %+v", a, b, c, turned)
	}
}

// TestP11_2_AnyTwo: also those that may be none, held against a second reckoning.
func TestP11_2_AnyTwo(t *testing.T) {
	var l []api.Cert
	ends := []int{math.MinInt, -1, 0, 1, 2, 1 << 32, math.MaxInt}
	for _, view := range ends {
		for _, kind := range []int{math.MinInt, -2, -1, 0, 1, 2, 3, 4, 1<<32 + 2, math.MaxInt} {
			for _, round := range ends {
				l = append(l, api.Cert{Kind: kind, View: view, Round: round, Block: kind, Height: 3 - kind})
			}
		}
	}
	for _, a := range l {
		for _, b := range l {
			ranked(t, a, b)
		}
	}
	for _, a := range ladder() {
		for _, b := range slices.Concat(rights(), wrongs()) {
			ranked(t, a, b)
		}
	}
}

// TestP11_2_OfOneView: where neither is Fallback, the Round alone ranks; where it is the same, Max tells the first one.
func TestP11_2_OfOneView(t *testing.T) {
	for _, c := range []struct {
		a, b api.Cert
		want int
	}{
		{api.Cert{View: 3}, api.Cert{Kind: 1, View: 3}, 0},
		{api.Cert{View: 3, Round: 9}, api.Cert{Kind: 1, View: 3, Round: 1}, 1},
		{api.Cert{View: 3, Round: 1}, api.Cert{Kind: 1, View: 3, Round: 9}, -1},
		{api.Cert{Kind: 3, View: 3}, api.Cert{Kind: 1, View: 3}, 0},
		{api.Cert{Kind: 3, View: 3, Round: 9}, api.Cert{Kind: 2, View: 3, Round: 1}, -1},
		{api.Cert{Kind: -1, View: 3, Round: 9}, api.Cert{View: 3, Round: 1}, 1},
		{api.Cert{Kind: 2, View: 3, Round: 9}, api.Cert{View: 3, Round: 10}, 1},
	} {
		if n, turned := cert.Cmp(c.a, c.b), cert.Cmp(c.b, c.a); n != c.want || turned != -c.want {
			t.Errorf("Cmp(%+v, %+v): %d, turned round %d, not %d", c.a, c.b, n, turned, c.want)
		}
		ranked(t, c.a, c.b)
	}
}

// TestP11_2_OfAnotherKind: Fallback stands above all other kinds, and these are of one height, kinds that are none too.
func TestP11_2_OfAnotherKind(t *testing.T) {
	kinds := []int{math.MinInt, -1<<32 + 2, -2, -1, 0, 1, 3, 4, 1 << 31, 1 << 32, 1<<32 + 1, 1<<32 + 2, math.MaxInt}
	for _, x := range kinds {
		for _, y := range kinds {
			low, same := api.Cert{Kind: x, View: 3, Round: 4}, api.Cert{Kind: y, View: 3, Round: 4, Block: 5, Signers: 7}
			if n := cert.Cmp(low, same); n != 0 || cert.Max(low, same) != low {
				t.Errorf("Cmp of the kinds %d, %d: %d", x, y, n)
			}
			for _, high := range []api.Cert{{Kind: y, View: 3, Round: 5}, {Kind: y, View: 4, Round: 3}, {Kind: api.Fallback, View: 3, Round: 3}} {
				if n := cert.Cmp(low, high); n != -1 || cert.Max(low, high) != high {
					t.Errorf("Cmp(%+v, %+v): %d", low, high, n)
				}
				ranked(t, high, low)
			}
		}
	}
}

// TestP11_2_OfOneRank: what isn't of the rank doesn't count; Max tells the first one.
func TestP11_2_OfOneRank(t *testing.T) {
	for _, base := range []api.Cert{{}, aRegular(), aFallback(), anEndorsed()} {
		l := []api.Cert{base}
		add := func(change func(*api.Cert)) {
			c := base
			change(&c)
			l = append(l, c)
		}
		for _, n := range []int{1, -1, 1 << 40} {
			add(func(c *api.Cert) { c.Block += n })
			add(func(c *api.Cert) { c.Height += n })
			add(func(c *api.Cert) { c.Author += n })
			add(func(c *api.Cert) { c.Signers += uint32(n) })
			add(func(c *api.Cert) { c.Coin += uint32(n) })
		}
		add(func(c *api.Cert) { c.Block, c.Height, c.Author, c.Signers, c.Coin = 0, 0, 0, 0, 0 })
		for _, a := range l {
			for _, b := range l {
				if n := cert.Cmp(a, b); n != 0 {
					t.Errorf("Cmp(%+v, %+v): %d", a, b, n)
				}
				if c := cert.Max(a, b); c != a {
					t.Errorf("Max(%+v, %+v): %+v", a, b, c)
				}
			}
		}
	}
}

// TestP11_3_BytesOfExamples: written out.
func TestP11_3_BytesOfExamples(t *testing.T) {
	for _, c := range []struct {
		c    api.Cert
		want string
	}{
		{api.Cert{}, "\x00"},
		{aRegular(), "\x01\x05\x02\x07\x0b"},
		{aFallback(), "\x02\x06\x03\x09\x07\x02\x01\x00"},
		{anEndorsed(), "\x02\x06\x03\x09\x07\x02\x01\x03"},
		{api.Cert{Kind: 1, Block: 300, View: 128, Round: 1, Signers: 0x3ff}, "\x01\xac\x02\x80\x01\x01\xff\x07"},
		{api.Cert{Kind: 1, Block: 1<<31 - 1, View: api.MaxView, Round: api.MaxRound, Signers: 0x200}, "\x01\xff\xff\xff\xff\x07\x80\x80\x40\x80\x80\x80\x80\x04\x80\x04"},
		{api.Cert{Kind: 2, Block: 1, View: 1, Round: 1, Height: 3, Author: 9, Signers: 1, Coin: 0x3ff}, "\x02\x01\x01\x01\x01\x03\x09\xff\x07"},
		{api.Cert{Kind: 2, Block: 1, View: 1, Round: 1, Height: 1, Author: 0, Signers: 2}, "\x02\x01\x01\x01\x02\x01\x00\x00"},
	} {
		if b, e := cert.Bytes(c.c); string(b) != c.want || e != api.OK {
			t.Errorf("Bytes(%+v): %q, error %d, not %q", c.c, b, e, c.want)
		}
		taken(t, wire.New([]byte(c.want)), c.c, 0, api.OK)
	}
}

// TestP11_3_BytesOfRightOnes: held against a second reckoning.
func TestP11_3_BytesOfRightOnes(t *testing.T) {
	for _, c := range rights() {
		if b, e := cert.Bytes(c); string(b) != bytesOf(c) || e != api.OK {
			t.Errorf("Bytes(%+v): %q, error %d", c, b, e)
		}
	}
}

// TestP11_3_BytesOfWrongOnes: Check's error comes ahead of those of wire, beside nothing (R2).
func TestP11_3_BytesOfWrongOnes(t *testing.T) {
	for _, c := range wrongs() {
		if b, e := cert.Bytes(c); len(b) != 0 || e != api.ErrCert {
			t.Errorf("Bytes(%+v): %q, error %d", c, b, e)
		}
	}
}

// TestP11_3_TakeOfCutBytes: the bytes end at each place within a certificate, also where all behind might be 0.
func TestP11_3_TakeOfCutBytes(t *testing.T) {
	for _, c := range rights() {
		s := bytesOf(c)
		for size := range len(s) {
			refused(t, s[:size], api.ErrCut)
		}
		taken(t, wire.New([]byte(s)), c, 0, api.OK)
	}
	refused(t, "\x02\x01\x01\x01\x01\x01", api.ErrCut)
	refused(t, "\x02\x01\x01\x01\x01\x01\x00", api.ErrCut)
	refused(t, "\x02\x01\x01\x01\x01\x01\x00\x80", api.ErrCut)
	taken(t, wire.New([]byte("\x02\x01\x01\x01\x01\x01\x00\x00")), api.Cert{Kind: 2, Block: 1, View: 1, Round: 1, Height: 1, Signers: 1}, 0, api.OK)
}

// TestP11_3_TakeLeavesWhatStandsBehind: bytes behind a certificate stay, whatever they are.
func TestP11_3_TakeLeavesWhatStandsBehind(t *testing.T) {
	for _, c := range rights() {
		for _, behind := range []string{"\x00", "\x03", "\x80", "\xff\xff", bytesOf(aRegular()), strings.Repeat("\xff", 100)} {
			r := wire.New([]byte(bytesOf(c) + behind))
			taken(t, r, c, len(behind), api.ErrTail)
			if n, want := r.Num(), (&model{all: behind}).num(); uint64(n) != want {
				t.Errorf("behind %+v: %d, not %d", c, n, want)
			}
		}
	}
}

// TestP11_3_TakeOneBehindTheOther: certificates are taken in their order, and then none is left.
func TestP11_3_TakeOneBehindTheOther(t *testing.T) {
	list, all := rights(), ""
	for _, c := range list {
		all += bytesOf(c)
	}
	r := wire.New([]byte(all))
	for i, c := range list {
		all = all[len(bytesOf(c)):]
		done := api.ErrTail
		if i == len(list)-1 {
			done = api.OK
		}
		taken(t, r, c, len(all), done)
	}
	taken(t, r, api.Cert{}, 0, api.ErrCut)
	taken(t, r, api.Cert{}, 0, api.ErrCut)
}

// TestP11_3_TakeOfAWrongOneBehindARightOne: what was taken stays taken; what is wrong ends it.
func TestP11_3_TakeOfAWrongOneBehindARightOne(t *testing.T) {
	for _, bad := range []string{"\x01\x00\x01\x01\x01", "\x02\x01\x01\x01\x01\x00\x00\x00", "\x03"} {
		behind := bad + bytesOf(aFallback())
		r := wire.New([]byte(bytesOf(aRegular()) + behind))
		taken(t, r, aRegular(), len(behind), api.ErrTail)
		taken(t, r, api.Cert{}, 0, api.ErrCert)
		taken(t, r, api.Cert{}, 0, api.ErrCert)
	}
}

// rows: the numbers of one of each kind, as they are written.
func rows() [][]uint64 {
	return [][]uint64{row(api.Cert{}), row(aRegular()), row(aFallback()), row(anEndorsed())}
}

// TestP11_3_TakeOfWhatWireRefuses: each number of each kind in a form that nobody writes.
func TestP11_3_TakeOfWhatWireRefuses(t *testing.T) {
	codes := []string{"\x85\x00", "\x80\x00", "\x81\x80\x80\x80\x80\x80\x80\x80\x40", strings.Repeat("\xff", 8) + "\x7f", strings.Repeat("\x80", 9) + "\x01", strings.Repeat("\xff", 10)}
	for _, l := range rows() {
		for i := range l {
			for _, s := range codes {
				refused(t, written(l[:i]...)+s+written(l[i+1:]...), api.ErrCode)
			}
		}
	}
	refused(t, strings.Repeat("\x80", 1<<16), api.ErrCode)
}

// TestP11_3_TakeOfNumbersOutOfBounds: ErrCert, whatever stands behind; nothing is left.
func TestP11_3_TakeOfNumbersOutOfBounds(t *testing.T) {
	// The greatest that may be of Block, View, Round, Signers, Height, Author, Coin.
	most := []uint64{2, 1<<31 - 1, 1 << 20, 1 << 30, 1023, 3, 9, 1023}
	count := 0
	for _, base := range rows()[1:] {
		for i := 1; i < len(base); i++ {
			l := slices.Clone(base)
			for _, n := range []uint64{0, most[i] + 1, most[i] + 2, 1 << 31, 1<<32 - 1, 1 << 32, 1<<32 + 1, 1<<32 + most[i], 1<<33 + 1, 1 << 40, 1<<62 - 1, 1 << 62} {
				l[i] = n
				// Of Author and Coin 0 may be.
				if n == 0 && i > 5 {
					taken(t, wire.New([]byte(written(l...))), (&model{all: written(l...)}).take(), 0, api.OK)
					continue
				}
				count++
				for _, behind := range []string{"", "\x00", "\x80", bytesOf(aRegular())} {
					refused(t, written(l...)+behind, api.ErrCert)
					alike(t, written(l...)+behind)
				}
			}
		}
	}
	if count < 200 {
		t.Errorf("only %d were out of their bounds", count)
	}
}

// TestP11_3_TakeOfNumbersInBounds: each at both of its ends.
func TestP11_3_TakeOfNumbersInBounds(t *testing.T) {
	least := []uint64{0, 1, 1, 1, 1, 1, 0, 0}
	most := []uint64{2, 1<<31 - 1, 1 << 20, 1 << 30, 1023, 3, 9, 1023}
	for _, base := range rows()[1:] {
		for i := 1; i < len(base); i++ {
			for _, n := range []uint64{least[i], least[i] + 1, most[i] - 1, most[i]} {
				l := slices.Clone(base)
				l[i] = n
				r := wire.New([]byte(written(l...)))
				if c := cert.Take(r); !slices.Equal(row(c), l) || r.Done() != api.OK {
					t.Errorf("Take of %v: %+v, error %d", l, c, r.Done())
				}
			}
		}
	}
}

// TestP11_3_TakeOfAnotherKind: ErrCert at once, whatever stands behind it, or nothing.
func TestP11_3_TakeOfAnotherKind(t *testing.T) {
	behind := []string{"", "\x00", "\x80", "\x80\x00", "\xff\xff", strings.Repeat("\xff", 12), bytesOf(aRegular()), bytesOf(aRegular())[1:], bytesOf(anEndorsed())[1:]}
	for _, kind := range []uint64{3, 4, 126, 127, 128, 129, 130, 255, 256, 257, 258, 1 << 31, 1<<32 - 1, 1 << 32, 1<<32 + 1, 1<<32 + 2, 1 << 33, 1<<62 - 1, 1 << 62} {
		for _, s := range behind {
			refused(t, written(kind)+s, api.ErrCert)
		}
	}
}

// TestP11_3_TakeOfAKindThatIsNoNumber: the reader's error, not ErrCert.
func TestP11_3_TakeOfAKindThatIsNoNumber(t *testing.T) {
	refused(t, "", api.ErrCut)
	refused(t, "\x80", api.ErrCut)
	refused(t, "\x81", api.ErrCut)
	refused(t, "\x81\x00"+bytesOf(aRegular())[1:], api.ErrCode)
	refused(t, "\x80\x00", api.ErrCode)
	refused(t, "\x81\x80\x80\x80\x80\x80\x80\x80\x40"+bytesOf(aRegular())[1:], api.ErrCode)
	refused(t, strings.Repeat("\xff", 20), api.ErrCode)
}

// TestP11_3_TheReadersErrorAheadOfErrCert: a number out of its bounds tells nothing, where the bytes behind it are wrong.
func TestP11_3_TheReadersErrorAheadOfErrCert(t *testing.T) {
	for s, want := range map[string]api.Errno{
		"\x01\x00":                                 api.ErrCut,
		"\x01\x00\x00\x00":                         api.ErrCut,
		"\x01\x00\x00\x00\x80":                     api.ErrCut,
		"\x01\x00\x01\x01\x80\x00":                 api.ErrCode,
		"\x02\x01\x01\x01\x00":                     api.ErrCut,
		"\x02\x01\x01\x01\x01\x04":                 api.ErrCut,
		"\x02\x01\x01\x01\x01\x04\x0a":             api.ErrCut,
		"\x02\x01\x01\x01\x01\x04\x0a\x81":         api.ErrCut,
		"\x02\x01\x01\x01\x01\x04\x0a\x81\x00":     api.ErrCode,
		"\x02\x00\x85\x00":                         api.ErrCode,
		"\x02\x01\x01\x01\x01\x01\x80\x80\x80\x01": api.ErrCut,
	} {
		refused(t, s, want)
		alike(t, s)
	}
}

// TestP11_3_TakeOfAReaderWithAnError: its error stays, whatever it is, and nothing is taken.
func TestP11_3_TakeOfAReaderWithAnError(t *testing.T) {
	for _, e := range []api.Errno{api.ErrArg, api.ErrNil, api.ErrCut, api.ErrCode, api.ErrTail, api.ErrMany, api.ErrCert, api.ErrBlock, -1, math.MaxInt, math.MinInt} {
		for _, s := range []string{"", bytesOf(api.Cert{}), bytesOf(aRegular()), bytesOf(anEndorsed()), "\x03"} {
			r := wire.New([]byte(s))
			r.Fail(e)
			taken(t, r, api.Cert{}, 0, e)
			taken(t, r, api.Cert{}, 0, e)
		}
	}
}

// TestP11_3_TakeOfAReaderThatFailsBehind: an error behind a certificate stays too, and that one was taken.
func TestP11_3_TakeOfAReaderThatFailsBehind(t *testing.T) {
	r := wire.New([]byte(bytesOf(aRegular()) + bytesOf(aFallback())))
	taken(t, r, aRegular(), len(bytesOf(aFallback())), api.ErrTail)
	r.Fail(api.ErrBlock)
	taken(t, r, api.Cert{}, 0, api.ErrBlock)
}

// TestP11_3_TakeFails: behind ErrCert the reader answers zeros, and keeps that error.
func TestP11_3_TakeFails(t *testing.T) {
	for _, s := range []string{"\x03\x07\x01a", "\x01\x00\x01\x01\x01\x07\x01a"} {
		r := wire.New([]byte(s))
		taken(t, r, api.Cert{}, 0, api.ErrCert)
		if r.Num() != 0 || r.Text() != "" || r.Most(9) != 0 {
			t.Errorf("behind ErrCert a reader goes on")
		}
		r.Fail(api.ErrBlock)
		if r.Done() != api.ErrCert {
			t.Errorf("behind ErrCert: error %d", r.Done())
		}
	}
}

// TestP11_3_TakeOfNoBytes: the reader's error, that of bytes which end.
func TestP11_3_TakeOfNoBytes(t *testing.T) {
	for _, b := range [][]byte{nil, {}} {
		taken(t, wire.New(b), api.Cert{}, 0, api.ErrCut)
	}
}

// TestP11_3_TakeOfNil: nothing, and no panic.
func TestP11_3_TakeOfNil(t *testing.T) {
	taken(t, nil, api.Cert{}, 0, api.ErrNil)
}

// TestP11_3_TakeOfTurnedBytes: each place has each other byte.
func TestP11_3_TakeOfTurnedBytes(t *testing.T) {
	long := api.Cert{Kind: 2, Block: 1<<31 - 1, View: api.MaxView, Round: api.MaxRound, Height: 3, Author: 9, Signers: 0x3ff, Coin: 0x3ff}
	for _, c := range []api.Cert{{}, aRegular(), aFallback(), anEndorsed(), long} {
		for _, behind := range []string{"", "\x05", bytesOf(aRegular()), bytesOf(anEndorsed())} {
			s := bytesOf(c) + behind
			for i := range len(bytesOf(c)) {
				for turned := range 256 {
					alike(t, s[:i]+string([]byte{byte(turned)})+s[i+1:])
				}
			}
		}
	}
}

// TestP11_3_TakeOfShortBytes: all strings of a few bytes, held against a second reckoning.
func TestP11_3_TakeOfShortBytes(t *testing.T) {
	l := []string{""}
	pieces := []string{"\x00", "\x01", "\x02", "\x03", "\x0a", "\x80", "\xff\x07", "\xff"}
	for from, round := 0, 0; round < 6; round++ {
		to := len(l)
		for _, s := range l[from:to] {
			for _, c := range pieces {
				l = append(l, s+c)
			}
		}
		from = to
	}
	for _, s := range l {
		alike(t, s)
		// The beginning of a Fallback one, so that a few bytes end it.
		alike(t, "\x02\x01\x01\x01"+s)
	}
}

// TestP11_4_TakeOfBytes: it is the certificate.
func TestP11_4_TakeOfBytes(t *testing.T) {
	count := 0
	follows := func(c api.Cert) {
		b, e := cert.Bytes(c)
		if cert.Check(c) != api.OK {
			return
		}
		count++
		r := wire.New(b)
		if got := cert.Take(r); got != c || r.Done() != api.OK || e != api.OK {
			t.Errorf("Take of Bytes(%+v): %+v, error %d, %d", c, got, r.Done(), e)
		}
	}
	for _, c := range rights() {
		follows(c)
	}
	grid(follows)
	if count < 600 {
		t.Errorf("only %d may be", count)
	}
}

// TestP11_4_WhatIsTakenIsWrittenSo: there are no other bytes of which a certificate is taken.
func TestP11_4_WhatIsTakenIsWrittenSo(t *testing.T) {
	d := drawn(114)
	count := 0
	for range 20000 {
		s := d.turn(bytesOf(d.cert()))
		r := wire.New([]byte(s))
		c := cert.Take(r)
		if e := r.Done(); e != api.OK && e != api.ErrTail {
			continue
		}
		count++
		if b, e := cert.Bytes(c); string(b) != s[:len(s)-r.Rest()] || e != api.OK {
			t.Errorf("% x is taken as %+v, which is written % x", s, c, b)
		}
	}
	if count < 5000 {
		t.Errorf("only %d came of turned bytes", count)
	}
}

// TestP11_4_CmpIsAnOrder: of one with itself, of two turned round, of three in a row.
func TestP11_4_CmpIsAnOrder(t *testing.T) {
	l := append(ladder(), aRegular(), aFallback(), anEndorsed(), api.Cert{View: 1, Round: 3}, api.Cert{Kind: 3, View: 1}, api.Cert{Kind: -1, View: 3, Round: 9})
	for view := range 3 {
		for kind := -1; kind <= 4; kind++ {
			for round := range 3 {
				l = append(l, api.Cert{Kind: kind, View: view, Round: round, Block: kind + round})
			}
		}
	}
	for _, a := range l {
		if n := cert.Cmp(a, a); n != 0 {
			t.Errorf("Cmp of %+v with itself: %d", a, n)
		}
		for _, b := range l {
			ab := cert.Cmp(a, b)
			if ba := cert.Cmp(b, a); ab != -ba || ab < -1 || ab > 1 {
				t.Errorf("Cmp of %+v, %+v: %d, turned round %d", a, b, ab, ba)
			}
			for _, c := range l {
				bc, ac := cert.Cmp(b, c), cert.Cmp(a, c)
				if ab <= 0 && bc <= 0 && ac > 0 || ab == 0 && ac != bc || ab < 0 && bc <= 0 && ac == 0 {
					t.Errorf("Cmp of %+v, %+v, %+v in a row: %d, %d, %d", a, b, c, ab, bc, ac)
				}
			}
		}
	}
}

// TestP11_4_MaxIsOneOfBoth: and not below either; of a row it is the same whatever the order.
func TestP11_4_MaxIsOneOfBoth(t *testing.T) {
	l := append(ladder(), aRegular(), aFallback(), anEndorsed(), api.Cert{View: 1, Round: 3}, api.Cert{Kind: 3, View: 1})
	for _, a := range l {
		for _, b := range l {
			c := cert.Max(a, b)
			if c != a && c != b || cert.Cmp(c, a) < 0 || cert.Cmp(c, b) < 0 {
				t.Errorf("Max(%+v, %+v): %+v", a, b, c)
			}
			for _, x := range l {
				if left, right := cert.Max(cert.Max(a, b), x), cert.Max(a, cert.Max(b, x)); left != right {
					t.Errorf("Max of %+v, %+v, %+v: %+v or %+v", a, b, x, left, right)
				}
			}
		}
	}
}

// dice: numbers that look drawn, the same each time.
type dice struct{ seed uint64 }

// drawn: dice with a seed.
func drawn(seed uint64) *dice { return &dice{seed} }

// below: a number from 0 to n less 1.
func (d *dice) below(n int) int {
	d.seed = d.seed*6364136223846793005 + 1442695040888963407
	return int(d.seed >> 33 % uint64(n))
}

// near: a number from least to most, often one of these two; now and then one beside them, but not below 0.
func (d *dice) near(least, most int) int {
	switch d.below(40) {
	case 0:
		return max(0, least-1)
	case 1:
		return most + 1
	case 2, 3, 4, 5:
		return least
	case 6, 7, 8, 9:
		return most
	}
	return least + d.below(most-least+1)
}

// cert: a certificate, most of which may be.
func (d *dice) cert() api.Cert {
	switch d.below(20) {
	case 0:
		return api.Cert{}
	case 1:
		return api.Cert{Coin: uint32(d.below(4)), Block: d.below(2), Round: d.below(3)}
	}
	c := api.Cert{Kind: 1 + d.below(2), Block: d.near(1, 1<<31-1), View: d.near(1, api.MaxView), Round: d.near(1, api.MaxRound), Signers: uint32(d.near(1, 1023))}
	if c.Kind == api.Fallback || d.below(20) == 0 {
		c.Height, c.Author, c.Coin = d.near(1, 3), d.near(0, 9), uint32(d.near(0, 1023)*d.below(2))
	}
	return c
}

// turn: a text with a byte changed, left away, put in or doubled, cut, or as it is.
func (d *dice) turn(s string) string {
	i, c := d.below(len(s)), string([]byte{byte(d.below(256))})
	switch d.below(7) {
	case 0:
		return s[:i] + c + s[i+1:]
	case 1:
		return s[:i] + s[i+1:]
	case 2:
		return s[:i] + c + s[i:]
	case 3:
		return s[:i] + s[i:i+1] + s[i:]
	case 4:
		return s[:i]
	}
	return s
}

// TestP11_ByASecondReckoning: a long row of certificates and bytes.
func TestP11_ByASecondReckoning(t *testing.T) {
	d := drawn(11)
	last, counts, came := api.Cert{}, [2]int{}, 0
	for range 30000 {
		c := d.cert()
		want, seen := api.ErrCert, 0
		if right(c) {
			want, seen = api.OK, 1
		}
		counts[seen]++
		checked(t, c, want)
		if b, e := cert.Bytes(c); e != want || e == api.OK && string(b) != bytesOf(c) || e != api.OK && len(b) != 0 {
			t.Errorf("Bytes(%+v): %q, error %d", c, b, e)
		}
		ranked(t, c, last)
		came += alike(t, d.turn(bytesOf(c))+d.turn(bytesOf(last))+bytesOf(d.cert()))
		last = c
	}
	if counts[0] < 1000 || counts[1] < 10000 || came < 10000 {
		t.Errorf("%d were wrong, %d right, %d came of turned bytes", counts[0], counts[1], came)
	}
}

// TestR4_TakenOnesStay: what is written to the bytes, ahead of Take and behind it, changes nothing.
func TestR4_TakenOnesStay(t *testing.T) {
	b := []byte(bytesOf(aRegular()) + bytesOf(anEndorsed()))
	kept := string(b)
	r := wire.New(b)
	one := cert.Take(r)
	if string(b) != kept {
		t.Errorf("Take changed the bytes: %q", b)
	}
	clear(b)
	taken(t, r, anEndorsed(), 0, api.OK)
	if one != aRegular() {
		t.Errorf("taken: %+v", one)
	}
}

// TestR4_BytesAreTheCallers: two answers share nothing, nor does room behind their ends lie in the other.
func TestR4_BytesAreTheCallers(t *testing.T) {
	for _, c := range []api.Cert{{}, aRegular(), aFallback(), anEndorsed()} {
		a, _ := cert.Bytes(c)
		b, _ := cert.Bytes(c)
		for i := range a[:cap(a)] {
			a[:cap(a)][i] = 0xee
		}
		if string(b) != bytesOf(c) {
			t.Errorf("Bytes(%+v): two answers are of the same memory", c)
		}
		if again, e := cert.Bytes(c); string(again) != bytesOf(c) || e != api.OK {
			t.Errorf("Bytes(%+v) behind a change: %q, %d", c, again, e)
		}
	}
}

// TestR6_NothingIsKept: calls in between, refused ones too, change no answer.
func TestR6_NothingIsKept(t *testing.T) {
	for _, c := range wrongs() {
		cert.Check(c)
		cert.Bytes(c)
		cert.Max(c, aRegular())
		cert.Take(wire.New([]byte("\x03")))
	}
	for _, c := range []api.Cert{{}, aRegular(), aFallback(), anEndorsed()} {
		checked(t, c, api.OK)
		taken(t, wire.New([]byte(bytesOf(c))), c, 0, api.OK)
	}
}
