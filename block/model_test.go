package block_test

import (
	"cmp"
	"encoding/binary"
	"math"
	"reflect"
	"slices"
	"strings"
	"testing"

	"hallmoot/api"
	"hallmoot/block"
	"hallmoot/cert"
	"hallmoot/tx"
	"hallmoot/wire"
)

// This file has blocks of which the tests are made, and second reckonings of what layer 12 tells.

// regular: a certificate of the fast path.
func regular(view, round int) api.Cert {
	return api.Cert{Kind: api.Regular, Block: 300, View: view, Round: round, Signers: 7}
}

// chained: one of the fallback, not endorsed.
func chained(view, round, height, author int) api.Cert {
	return api.Cert{Kind: api.Fallback, Block: 301, View: view, Round: round, Height: height, Author: author, Signers: 0xb}
}

// endorsed: one of the fallback that is.
func endorsed(view, round, height, author int) api.Cert {
	c := chained(view, round, height, author)
	c.Coin = 5
	return c
}

// move: a transaction that is right.
func move(nonce int64) api.Tx {
	return api.Tx{Kind: api.TxMove, From: "alice", To: "bob", Amount: 300, Nonce: nonce}
}

// put: another one.
func put(nonce int64) api.Tx {
	return api.Tx{Kind: api.TxPut, From: "bob", Key: "a", Val: "b c", Nonce: nonce}
}

// txs: so many of both kinds, all right.
func txs(count int) []api.Tx {
	l := []api.Tx{}
	for i := range count {
		l = append(l, []api.Tx{move(int64(i + 1)), put(int64(i + 128))}[i%2])
	}
	return l
}

// highs: certificates of each kind that a timeout of a view may have, and that may stand ahead of its blocks of the Heights 0 and 1.
func highs(view int) []api.Cert {
	l := []api.Cert{{}, regular(view, 4), regular(1, 1)}
	if view > 1 {
		l = append(l, endorsed(view-1, 130, 3, 2), regular(view-1, 9), endorsed(1, 2, 1, 9))
	}
	return l
}

// timeouts: of these signers, their Highs of each kind in turn.
func timeouts(view int, signers ...int) []api.Timeout {
	var l []api.Timeout
	for i, k := range signers {
		l = append(l, api.Timeout{Signer: k, View: view, High: highs(view)[i%len(highs(view))]})
	}
	return l
}

// everybody: all signers that there may be.
func everybody() []int { return []int{0, 1, 2, 3, 4, 5, 6, 7, 8, 9} }

// steady: a block of the fast path.
func steady() api.Block {
	return api.Block{View: 2, Round: 5, Author: 1, Parent: regular(2, 4), Txs: txs(2)}
}

// first: one of Height 1.
func first() api.Block {
	return api.Block{View: 2, Round: 5, Height: 1, Author: 3, Parent: regular(2, 4), Proof: timeouts(2, 0, 2, 3), Txs: txs(1)}
}

// next: one of Height 2 or 3.
func next(height int) api.Block {
	return api.Block{View: 2, Round: 9, Height: height, Author: 3, Parent: chained(2, 8, height-1, 3), Txs: txs(2)}
}

// each: one of each Height.
func each() []api.Block { return []api.Block{steady(), first(), next(2), next(3)} }

// rights: blocks that may be: of each Height, with each kind of Parent, with and without Txs, of views and authors at their ends.
func rights() []api.Block {
	l := each()
	for _, view := range []int{1, 2, 300, api.MaxView} {
		for _, author := range []int{0, 3, 9} {
			for _, few := range [][]api.Tx{nil, {}, txs(1), txs(8)} {
				b := api.Block{View: view, Author: author, Txs: few}
				for _, b.Parent = range highs(view) {
					b.Round = b.Parent.Round + 1
					l = append(l, b)
					chain := b
					chain.Height = 1
					for _, signers := range [][]int{{0}, {9}, {0, 2, 3, 9}, everybody()} {
						chain.Proof = timeouts(view, signers...)
						l = append(l, chain)
					}
				}
				for b.Height = 2; b.Height <= 3; b.Height++ {
					b.Parent, b.Round = chained(view, 1<<30-1, b.Height-1, author), 1<<30
					l = append(l, b)
				}
			}
		}
	}
	return l
}

// greatest: the one with the most bytes.
func greatest() api.Block {
	far := api.Cert{Kind: api.Fallback, Block: 1<<31 - 1, View: api.MaxView - 1, Round: api.MaxRound - 1, Height: 3, Author: 9, Signers: 0x3ff, Coin: 0x3ff}
	b := api.Block{View: api.MaxView, Round: api.MaxRound, Height: 1, Author: 9, Parent: far}
	for k := range 10 {
		b.Proof = append(b.Proof, api.Timeout{Signer: k, View: api.MaxView, High: far})
	}
	for range 8 {
		b.Txs = append(b.Txs, api.Tx{Kind: api.TxPut, From: strings.Repeat("ω", 32), Key: strings.Repeat("é", 32), Val: strings.Repeat("\U0001F600", 32), Nonce: api.MaxInt})
	}
	return b
}

// clone: the same, with lists of its own.
func clone(b api.Block) api.Block {
	b.Proof, b.Txs = slices.Clone(b.Proof), slices.Clone(b.Txs)
	return b
}

// leaves: calls f with each number and text of a value.
func leaves(v reflect.Value, f func(reflect.Value)) {
	switch v.Kind() {
	case reflect.Struct:
		for i := range v.NumField() {
			leaves(v.Field(i), f)
		}
	case reflect.Slice:
		for i := range v.Len() {
			leaves(v.Index(i), f)
		}
	default:
		f(v)
	}
}

// changed: all blocks that differ from this one in one number or text, by so much, or a text by a letter.
func changed(b api.Block, by int64) []api.Block {
	var l []api.Block
	for more := true; more; {
		c, at := clone(b), 0
		leaves(reflect.ValueOf(&c).Elem(), func(v reflect.Value) {
			if at == len(l) {
				change(v, by)
			}
			at++
		})
		if more = at > len(l); more {
			l = append(l, c)
		}
	}
	return l
}

// change: one number or text.
func change(v reflect.Value, by int64) {
	switch v.Kind() {
	case reflect.String:
		v.SetString(v.String() + "a")
	case reflect.Uint32:
		v.SetUint(uint64(uint32(v.Uint()) + uint32(by)))
	default:
		v.SetInt(v.Int() + by)
	}
}

// place: what a certificate is to a view, in words; nothing, if it may be none.
func place(c api.Cert, view int) string {
	if cert.Check(c) != api.OK {
		return ""
	}
	kind := []string{"genesis", "regular", "fallback"}[c.Kind]
	if c.Coin != 0 {
		kind = "endorsed"
	}
	return kind + []string{" below", " same", " above"}[cmp.Compare(c.View, view)+1]
}

// seen: may one who is in a view have it as the highest one?
func seen(c api.Cert, view int) bool {
	return slices.Contains([]string{"genesis below", "regular below", "regular same", "endorsed below"}, place(c, view))
}

// timely: a second reckoning of what may be a timeout.
func timely(t api.Timeout) bool {
	return uint(t.Signer) < 10 && uint(t.View)-1 < 1048576 && seen(t.High, t.View)
}

// why: a second reckoning of Check.
func why(b api.Block) api.Errno {
	wrong := func(t api.Tx) bool { return tx.Check(t) != api.OK }
	if uint(b.View)-1 >= 1048576 || uint(b.Author) > 9 || uint(b.Height) > 3 || len(b.Txs) > 8 || slices.ContainsFunc(b.Txs, wrong) {
		return api.ErrBlock
	}
	stands := seen(b.Parent, b.View)
	if b.Height > 1 {
		stands = place(b.Parent, b.View) == "fallback same" && b.Parent.Author == b.Author && b.Parent.Height+1 == b.Height
	}
	if !stands || b.Round-b.Parent.Round != 1 || b.Round > 1073741824 {
		return api.ErrParent
	}
	if (b.Height == 1) != (len(b.Proof) > 0) || len(b.Proof) > 10 {
		return api.ErrProof
	}
	for i, t := range b.Proof {
		if !timely(t) || t.View != b.View || i > 0 && b.Proof[i-1].Signer >= t.Signer {
			return api.ErrProof
		}
	}
	return api.OK
}

// piece: some of a block's bytes: a number's (that of how many bytes a text has, too), or those of a text.
type piece struct {
	s      string
	number bool
}

// pieces: a second reckoning of a block's bytes, by the library's numbers of this form, which also writes what may be none, if its numbers aren't below 0.
type pieces []piece

func (p *pieces) nums(l ...int64) {
	for _, n := range l {
		*p = append(*p, piece{written(uint64(n)), true})
	}
}

func (p *pieces) text(s string) {
	p.nums(int64(len(s)))
	*p = append(*p, piece{s, false})
}

func (p *pieces) cert(c api.Cert) {
	all := []int64{int64(c.Kind), int64(c.Block), int64(c.View), int64(c.Round), int64(c.Signers), int64(c.Height), int64(c.Author), int64(c.Coin)}
	switch c.Kind {
	case 1:
		p.nums(all[:5]...)
	case 2:
		p.nums(all...)
	default:
		p.nums(all[0])
	}
}

func (p *pieces) tx(t api.Tx) {
	p.nums(int64(t.Kind), t.Nonce)
	p.text(t.From)
	if t.Kind == 1 {
		p.text(t.To)
		p.nums(t.Amount)
		return
	}
	p.text(t.Key)
	p.text(t.Val)
}

// cut: a block's pieces.
func cut(b api.Block) pieces {
	var p pieces
	p.nums(int64(b.View), int64(b.Round), int64(b.Height), int64(b.Author))
	p.cert(b.Parent)
	p.nums(int64(len(b.Proof)))
	for _, t := range b.Proof {
		p.nums(int64(t.Signer))
		p.cert(t.High)
	}
	p.nums(int64(len(b.Txs)))
	for _, t := range b.Txs {
		p.tx(t)
	}
	return p
}

// join: the bytes of pieces.
func (p pieces) join() string {
	s := ""
	for _, x := range p {
		s += x.s
	}
	return s
}

// bytesOf: a second reckoning of a block's bytes.
func bytesOf(b api.Block) string { return cut(b).join() }

// written: the bytes of numbers.
func written(l ...uint64) string {
	var b []byte
	for _, n := range l {
		b = binary.AppendUvarint(b, n)
	}
	return string(b)
}

// model: a second reckoning of a reader, and of what is taken of it.
type model struct {
	rest   string
	failed api.Errno
}

// fail: the first error stays, and nothing is left.
func (m *model) fail(e api.Errno) {
	if m.failed == api.OK && e != api.OK {
		m.rest, m.failed = "", e
	}
}

// num: the next number.
func (m *model) num() uint64 {
	if m.failed != api.OK {
		return 0
	}
	size := strings.IndexFunc(m.rest, func(c rune) bool { return c < 128 }) + 1
	n, _ := binary.Uvarint([]byte(m.rest[:size]))
	switch {
	case size == 0 && len(m.rest) < 10:
		m.fail(api.ErrCut)
		return 0
	case size == 0 || size > 9 || n > 1<<62 || written(n) != m.rest[:size]:
		m.fail(api.ErrCode)
		return 0
	}
	m.rest = m.rest[size:]
	return n
}

// text: the next text.
func (m *model) text() string {
	size := m.num()
	switch {
	case size > 65536:
		m.fail(api.ErrMany)
		return ""
	case size > uint64(len(m.rest)):
		m.fail(api.ErrCut)
		return ""
	}
	s := m.rest[:size]
	m.rest = m.rest[size:]
	return s
}

// cert: the next certificate.
func (m *model) cert() api.Cert {
	var n [8]uint64
	if n[0] = m.num(); n[0] > 2 {
		m.fail(api.ErrCert)
		return api.Cert{}
	}
	for i := 1; i < []int{1, 5, 8}[n[0]]; i++ {
		n[i] = m.num()
	}
	c := api.Cert{Kind: int(n[0]), Block: int(n[1]), View: int(n[2]), Round: int(n[3]), Signers: uint32(n[4]), Height: int(n[5]), Author: int(n[6]), Coin: uint32(n[7])}
	if cert.Check(c) != api.OK || n[4] > math.MaxUint32 || n[7] > math.MaxUint32 {
		m.fail(api.ErrCert)
	}
	return c
}

// tx: the next transaction.
func (m *model) tx() api.Tx {
	t := api.Tx{}
	switch m.num() {
	case 1:
		t = api.Tx{Kind: 1, Nonce: int64(m.num()), From: m.text(), To: m.text(), Amount: int64(m.num())}
	case 2:
		t = api.Tx{Kind: 2, Nonce: int64(m.num()), From: m.text(), Key: m.text(), Val: m.text()}
	}
	if tx.Check(t) != api.OK {
		m.fail(api.ErrTx)
	}
	return t
}

// count: how many items there are, at most so many.
func (m *model) count(most uint64) int {
	n := m.num()
	if n > most {
		m.fail(api.ErrMany)
		return 0
	}
	return int(n)
}

// take: the next block.
func (m *model) take() api.Block {
	b := api.Block{View: int(m.num()), Round: int(m.num()), Height: int(m.num()), Author: int(m.num()), Parent: m.cert()}
	for range m.count(10) {
		b.Proof = append(b.Proof, api.Timeout{Signer: int(m.num()), View: b.View, High: m.cert()})
	}
	for range m.count(8) {
		b.Txs = append(b.Txs, m.tx())
	}
	m.fail(why(b))
	if m.failed != api.OK {
		return api.Block{}
	}
	return b
}

// done: as a reader's.
func (m *model) done() api.Errno {
	if m.failed == api.OK && m.rest != "" {
		return api.ErrTail
	}
	return m.failed
}

// same: a second reckoning of Same; lists without items are alike, whether nil or empty.
func same(a, b api.Block) bool {
	for _, x := range []*api.Block{&a, &b} {
		x.Proof, x.Txs = append([]api.Timeout{}, x.Proof...), append([]api.Tx{}, x.Txs...)
	}
	return reflect.DeepEqual(a, b)
}

// nothing: is it a zero block, as told beside an error?
func nothing(b api.Block) bool { return same(b, api.Block{}) }

// taken: is this block the next one of a reader, with so much left, and this as the reader's Done?
func taken(t *testing.T, r *wire.Reader, want api.Block, rest int, done api.Errno) {
	t.Helper()
	if b := block.Take(r); !same(b, want) {
		t.Errorf("Take: %+v, not %+v", b, want)
	}
	if r.Rest() != rest || r.Done() != done {
		t.Errorf("behind Take %d bytes are left, error %d, not %d, %d", r.Rest(), r.Done(), rest, done)
	}
}

// refused: do Take and Parse of these bytes tell nothing but this error?
func refused(t *testing.T, s string, want api.Errno) {
	t.Helper()
	r := wire.New([]byte(s))
	if b, rest, e := block.Take(r), r.Rest(), r.Done(); !nothing(b) || rest != 0 || e != want {
		t.Errorf("Take of % .60x: %+v, %d bytes left, error %d, not %d", s, b, rest, e, want)
	}
	if b, e := block.Parse(s); !nothing(b) || e != want {
		t.Errorf("Parse of % .60x: %+v, error %d, not %d", s, b, e, want)
	}
}

// alike: are blocks taken of these bytes, till none is left, and is all of them parsed, as by the second reckoning? How many are counted.
func alike(t *testing.T, s string) int {
	t.Helper()
	r, m := wire.New([]byte(s)), &model{rest: s}
	for count := 0; ; count++ {
		got, want := block.Take(r), m.take()
		if !same(got, want) || r.Done() != m.done() || r.Rest() != len(m.rest) {
			t.Errorf("Take number %d of % .80x: %+v, error %d, %d left, not %+v, error %d, %d left", count, s, got, r.Done(), r.Rest(), want, m.done(), len(m.rest))
			return count
		}
		if count == 0 {
			parsed(t, s, got, r.Done())
		}
		switch m.done() {
		case api.OK:
			return count + 1
		case api.ErrTail:
			continue
		}
		return count
	}
}

// parsed: does Parse tell this block, or nothing beside this error?
func parsed(t *testing.T, s string, want api.Block, e api.Errno) {
	t.Helper()
	if e != api.OK {
		want = api.Block{}
	}
	if b, got := block.Parse(s); !same(b, want) || got != e {
		t.Errorf("Parse of % .80x: %+v, error %d, not %+v, %d", s, b, got, want, e)
	}
}

// checked: do Check and Bytes tell this, and the second reckoning, too?
func checked(t *testing.T, b api.Block, want api.Errno) {
	t.Helper()
	if e := block.Check(b); e != want {
		t.Errorf("Check(%+v): error %d, not %d", b, e, want)
	}
	if e := why(b); e != want {
		t.Errorf("%+v: error %d by the second reckoning, not %d", b, e, want)
	}
	s, e := block.Bytes(b)
	if e != want || want != api.OK && len(s) != 0 || want == api.OK && string(s) != bytesOf(b) {
		t.Errorf("Bytes(%+v): % x, error %d, not %d", b, s, e, want)
	}
}

// dice: numbers that look drawn, the same each time.
type dice struct{ seed uint64 }

// drawn: dice with a seed.
func drawn(seed uint64) *dice { return &dice{seed} }

// below: a number from 0 to n less 1.
func (d *dice) below(n int) int {
	d.seed = d.seed*6364136223846793005 + 1442695040888963407
	return int(d.seed >> 33 % uint64(n))
}

// odd: does it happen, once of so many times?
func (d *dice) odd(of int) bool { return d.below(of) == 0 }

// view: one that may be, often a small one.
func (d *dice) view() int {
	return []int{1, 2, 3, 4, 1 + d.below(api.MaxView), api.MaxView}[d.below(6)]
}

// round: one that may be, but the last one.
func (d *dice) round() int {
	return []int{1, 2, 127, 128, 1 + d.below(api.MaxRound-1), api.MaxRound - 1}[d.below(6)]
}

// high: a certificate of each kind that somebody in a view may have.
func (d *dice) high(view int) api.Cert {
	switch {
	case d.odd(6):
		return api.Cert{}
	case d.odd(2) || view == 1:
		return regular(1+d.below(view), d.round())
	}
	return endorsed(1+d.below(view-1), d.round(), 1+d.below(3), d.below(10))
}

// block: one that may be.
func (d *dice) block() api.Block {
	b := api.Block{View: d.view(), Height: d.below(4), Author: d.below(10)}
	b.Parent = d.high(b.View)
	if b.Height > 1 {
		b.Parent = chained(b.View, d.round(), b.Height-1, b.Author)
	}
	b.Round = b.Parent.Round + 1
	for k := 0; b.Height == 1 && k < 10; k++ {
		if d.odd(2) || k == 9 && len(b.Proof) == 0 {
			b.Proof = append(b.Proof, api.Timeout{Signer: k, View: b.View, High: d.high(b.View)})
		}
	}
	for range d.below(4) * d.below(3) {
		b.Txs = append(b.Txs, []func(int64) api.Tx{move, put}[d.below(2)](int64(1+d.below(400))))
	}
	return b
}

// spoil: a block with a number or a text changed, most often so that it may be none.
func (d *dice) spoil(b api.Block) api.Block {
	l := changed(b, []int64{-1, 1, 2, 1 << 32}[d.below(4)])
	return l[d.below(len(l))]
}

// turn: a text with a byte changed, left away, put in or doubled, cut, or as it is.
func (d *dice) turn(s string) string {
	i, c := d.below(len(s)), string([]byte{byte(d.below(256))})
	switch d.below(7) {
	case 0:
		return s[:i] + c + s[i+1:]
	case 1:
		return s[:i] + s[i+1:]
	case 2:
		return s[:i] + c + s[i:]
	case 3:
		return s[:i] + s[i:i+1] + s[i:]
	case 4:
		return s[:i]
	}
	return s
}
