package msg_test

import (
	"encoding/binary"
	"math"
	"math/bits"
	"reflect"
	"slices"
	"strings"
	"testing"

	"hallmoot/api"
	"hallmoot/block"
	"hallmoot/cert"
	"hallmoot/msg"
	"hallmoot/tx"
	"hallmoot/wire"
)

// This file has messages of which the tests are made, and second reckonings of what layer 14 tells.

// kinds: how many there are.
const kinds = 12

// names: of the kinds.
var names = []string{1: "Propose", "Vote", "GiveUp", "Proof", "Done", "Share", "Elect", "Ask", "Give", "High", "Submit", "Behind"}

// fields: what messages of each kind have.
var fields = [][]string{1: {"Block"}, {"Cert"}, {"Timeout"}, {"Proof"}, {"Cert"}, {"Signer", "View"}, {"View", "Set"}, {"Signer", "N"}, {"Block"}, {"Cert"}, {"Tx"}, {"Signer", "View"}}

// regular: a certificate of the fast path.
func regular(view, round int) api.Cert {
	return api.Cert{Kind: api.Regular, Block: 300, View: view, Round: round, Signers: 7}
}

// chained: one of the fallback, not endorsed.
func chained(view, round, height, author int) api.Cert {
	return api.Cert{Kind: api.Fallback, Block: 301, View: view, Round: round, Height: height, Author: author, Signers: 0xb}
}

// endorsed: one of the fallback that is.
func endorsed(view, round, height, author int) api.Cert {
	c := chained(view, round, height, author)
	c.Coin = 5
	return c
}

// by: a certificate with these signers.
func by(c api.Cert, signers uint32) api.Cert {
	c.Signers = signers
	return c
}

// move: a transaction that is right.
func move(nonce int64) api.Tx {
	return api.Tx{Kind: api.TxMove, From: "alice", To: "bob", Amount: 300, Nonce: nonce}
}

// put: another one.
func put(nonce int64) api.Tx {
	return api.Tx{Kind: api.TxPut, From: "bob", Key: "a", Val: "b c", Nonce: nonce}
}

// timeouts: of these signers, their Highs of each kind in turn.
func timeouts(view int, signers ...int) []api.Timeout {
	highs := []api.Cert{{}, regular(view, 4), regular(1, 1), endorsed(view-1, 130, 3, 2)}
	if view == 1 {
		highs = highs[:3]
	}
	var l []api.Timeout
	for i, k := range signers {
		l = append(l, api.Timeout{Signer: k, View: view, High: highs[i%len(highs)]})
	}
	return l
}

// everybody: all signers that there may be.
func everybody() []int { return []int{0, 1, 2, 3, 4, 5, 6, 7, 8, 9} }

// far: the greatest certificate of a block, endorsed.
func far() api.Cert {
	return api.Cert{Kind: api.Fallback, Block: 1<<31 - 1, View: api.MaxView - 1, Round: api.MaxRound - 1, Height: 3, Author: 9, Signers: 0x3ff, Coin: 0x3ff}
}

// blocks: of each Height, the least and the greatest too.
func blocks() []api.Block {
	long := api.Tx{Kind: api.TxPut, From: strings.Repeat("ω", 32), Key: strings.Repeat("é", 32), Val: strings.Repeat("\U0001F600", 32), Nonce: api.MaxInt}
	greatest := api.Block{View: api.MaxView, Round: api.MaxRound, Height: 1, Author: 9, Parent: far()}
	for k := range 10 {
		greatest.Proof = append(greatest.Proof, api.Timeout{Signer: k, View: api.MaxView, High: far()})
	}
	greatest.Txs = slices.Repeat([]api.Tx{long}, 8)
	return []api.Block{
		{View: 2, Round: 5, Author: 1, Parent: regular(2, 4), Txs: []api.Tx{move(1), put(128)}},
		{View: 2, Round: 5, Height: 1, Author: 3, Parent: regular(2, 4), Proof: timeouts(2, 0, 2, 3), Txs: []api.Tx{put(1)}},
		{View: 2, Round: 9, Height: 2, Author: 3, Parent: chained(2, 8, 1, 3), Txs: []api.Tx{move(2)}},
		{View: 2, Round: 9, Height: 3, Author: 3, Parent: chained(2, 8, 2, 3)},
		{View: 1, Round: 1},
		{View: 1, Round: 1, Proof: []api.Timeout{}, Txs: []api.Tx{}},
		greatest,
	}
}

// plain: one of each kind, by its number less 1.
func plain() []msg.Msg {
	return []msg.Msg{
		{Kind: 1, Block: blocks()[0]},
		{Kind: 2, Cert: by(regular(2, 4), 4)},
		{Kind: 3, Timeout: api.Timeout{Signer: 1, View: 2, High: regular(2, 4)}},
		{Kind: 4, Proof: timeouts(2, 0, 2, 3)},
		{Kind: 5, Cert: chained(2, 9, 3, 1)},
		{Kind: 6, Signer: 2, View: 5},
		{Kind: 7, View: 3, Set: 6},
		{Kind: 8, Signer: 1, N: 300},
		{Kind: 9, Block: blocks()[1]},
		{Kind: 10, Cert: endorsed(2, 9, 2, 1)},
		{Kind: 11, Tx: put(2)},
		{Kind: 12, Signer: 2, View: 5},
	}
}

// rights: messages that may be, of each kind, what they have at its ends.
func rights() []msg.Msg {
	l := plain()
	for _, b := range blocks() {
		l = append(l, msg.Msg{Kind: 1, Block: b}, msg.Msg{Kind: 9, Block: b})
	}
	for _, view := range []int{1, 2, 127, 128, api.MaxView} {
		for _, k := range []int{0, 1, 9} {
			l = append(l, msg.Msg{Kind: 6, Signer: k, View: view}, msg.Msg{Kind: 12, Signer: k, View: view})
			for _, c := range []api.Cert{{}, regular(view, 4), regular(1, api.MaxRound)} {
				l = append(l, msg.Msg{Kind: 3, Timeout: api.Timeout{Signer: k, View: view, High: c}})
			}
		}
		for _, signers := range [][]int{{0}, {9}, {0, 9}, {1, 2, 4, 8}, everybody()} {
			l = append(l, msg.Msg{Kind: 4, Proof: timeouts(view, signers...)})
		}
		for _, set := range []uint32{1, 2, 6, 1 << 9, 1<<9 | 1, 0x3ff} {
			l = append(l, msg.Msg{Kind: 7, View: view, Set: set}, msg.Msg{Kind: 5, Cert: by(chained(view, 9, 3, 1), set)})
			l = append(l, msg.Msg{Kind: 10, Cert: by(regular(view, 4), set)}, msg.Msg{Kind: 10, Cert: by(endorsed(view, 4, 1, 9), set)})
		}
	}
	for k := range 10 {
		for _, n := range []int{1, 127, 128, 1 << 20, 1<<31 - 1} {
			l = append(l, msg.Msg{Kind: 8, Signer: k, N: n})
		}
		l = append(l, msg.Msg{Kind: 2, Cert: by(regular(3, 4), 1<<k)})
		for height := 1; height <= 3; height++ {
			l = append(l, msg.Msg{Kind: 2, Cert: by(chained(3, 4, height, 9-k), 1<<k)}, msg.Msg{Kind: 10, Cert: endorsed(3, 4, height, k)})
		}
		l = append(l, msg.Msg{Kind: 5, Cert: chained(3, 4, 3, k)})
	}
	for _, nonce := range []int64{1, 300, api.MaxInt} {
		l = append(l, msg.Msg{Kind: 11, Tx: move(nonce)}, msg.Msg{Kind: 11, Tx: put(nonce)})
	}
	end := msg.Msg{Kind: 3, Timeout: api.Timeout{Signer: 9, View: api.MaxView, High: far()}}
	return append(l, end, msg.Msg{Kind: 10, Cert: far()}, msg.Msg{Kind: 4, Proof: blocks()[6].Proof})
}

// clone: the same, with lists of its own.
func clone(m msg.Msg) msg.Msg {
	m.Proof, m.Block.Proof, m.Block.Txs = slices.Clone(m.Proof), slices.Clone(m.Block.Proof), slices.Clone(m.Block.Txs)
	return m
}

// with: a message, changed.
func with(m msg.Msg, change func(m *msg.Msg)) msg.Msg {
	m = clone(m)
	change(&m)
	return m
}

// leaves: calls f with each number and text of a value, and where it stands.
func leaves(v reflect.Value, at string, f func(at string, v reflect.Value)) {
	switch v.Kind() {
	case reflect.Struct:
		for i := range v.NumField() {
			leaves(v.Field(i), strings.TrimPrefix(at+"."+v.Type().Field(i).Name, "."), f)
		}
	case reflect.Slice:
		for i := range v.Len() {
			leaves(v.Index(i), at+"[]", f)
		}
	default:
		f(at, v)
	}
}

// turnOf: a message that differs from another one in one number or text.
type turnOf struct {
	at string
	m  msg.Msg
}

// changed: all messages that differ from this one in one number or text, by so much, or a text by a letter.
func changed(m msg.Msg, by int64) []turnOf {
	var l []turnOf
	for more := true; more; {
		c, count, place := clone(m), 0, ""
		leaves(reflect.ValueOf(&c).Elem(), "", func(at string, v reflect.Value) {
			if count == len(l) {
				change(v, by)
				place = at
			}
			count++
		})
		if more = count > len(l); more {
			l = append(l, turnOf{place, c})
		}
	}
	return l
}

// change: one number or text.
func change(v reflect.Value, by int64) {
	switch v.Kind() {
	case reflect.String:
		v.SetString(v.String() + "a")
	case reflect.Uint32:
		v.SetUint(uint64(uint32(v.Uint()) + uint32(by)))
	default:
		v.SetInt(v.Int() + by)
	}
}

// named: does a kind name the field in which this stands?
func named(kind int, at string) bool {
	first, _, _ := strings.Cut(strings.TrimSuffix(at, "[]"), ".")
	return slices.Contains(fields[kind], strings.TrimSuffix(first, "[]"))
}

// right: a second reckoning of Check.
func right(m msg.Msg) bool {
	if m.Kind < 1 || m.Kind > kinds {
		return false
	}
	rest := msg.Msg{Kind: m.Kind}
	for _, field := range fields[m.Kind] {
		reflect.ValueOf(&rest).Elem().FieldByName(field).Set(reflect.ValueOf(m).FieldByName(field))
	}
	if !same(rest, m) {
		return false
	}
	isView, isReplica := uint(m.View)-1 < 1048576, uint(m.Signer) < 10
	c := m.Cert
	switch names[m.Kind] {
	case "Propose", "Give":
		return block.Check(m.Block) == api.OK
	case "Vote":
		return cert.Check(c) == api.OK && c.Kind > 0 && bits.OnesCount32(c.Signers) == 1 && c.Coin == 0
	case "GiveUp":
		return block.Timeout(m.Timeout) == api.OK
	case "Proof":
		return rising(m.Proof)
	case "Done":
		return cert.Check(c) == api.OK && c.Kind == 2 && c.Height == 3 && c.Coin == 0
	case "Elect":
		return isView && m.Set-1 < 1023
	case "Ask":
		return isReplica && uint(m.N)-1 < 2147483647
	case "High":
		return cert.Check(c) == api.OK && (c.Kind == 1 || c.Kind == 2 && c.Coin > 0)
	case "Submit":
		return tx.Check(m.Tx) == api.OK
	}
	return isReplica && isView
}

// rising: may they be a Proof? Of a view as a block of Height 1 has them, whose Proof layer 12 asks for the same.
func rising(p []api.Timeout) bool {
	return len(p) > 0 && block.Check(api.Block{View: p[0].View, Round: 1, Height: 1, Proof: p}) == api.OK
}

// why: Check's answer, by a second reckoning.
func why(m msg.Msg) api.Errno {
	if right(m) {
		return api.OK
	}
	return 140
}

// same: a second reckoning of Same; lists without items are alike, whether nil or empty.
func same(a, b msg.Msg) bool {
	for _, x := range []*msg.Msg{&a, &b} {
		x.Proof, x.Block.Proof, x.Block.Txs = append([]api.Timeout{}, x.Proof...), append([]api.Timeout{}, x.Block.Proof...), append([]api.Tx{}, x.Block.Txs...)
	}
	return reflect.DeepEqual(a, b)
}

// piece: some of a message's bytes: a number's (that of how many bytes a text has, too), which may be as great as all that wire writes, or those of a text.
type piece struct {
	s             string
	number, great bool
}

// pieces: a second reckoning of a message's bytes, by the library's numbers of this form, which also writes what may be none, if its numbers aren't below 0.
type pieces []piece

func (p *pieces) nums(l ...int) {
	for _, n := range l {
		*p = append(*p, piece{s: numbers(uint64(n)), number: true})
	}
}

func (p *pieces) text(s string) {
	p.nums(len(s))
	*p = append(*p, piece{s: s})
}

func (p *pieces) cert(c api.Cert) {
	all := []int{c.Kind, c.Block, c.View, c.Round, int(c.Signers), c.Height, c.Author, int(c.Coin)}
	switch c.Kind {
	case 1:
		p.nums(all[:5]...)
	case 2:
		p.nums(all...)
	default:
		p.nums(all[0])
	}
}

func (p *pieces) count(n int64) {
	*p = append(*p, piece{s: numbers(uint64(n)), number: true, great: true})
}

func (p *pieces) tx(t api.Tx) {
	p.nums(t.Kind)
	p.count(t.Nonce)
	p.text(t.From)
	if t.Kind == 1 {
		p.text(t.To)
		p.count(t.Amount)
		return
	}
	p.text(t.Key)
	p.text(t.Val)
}

func (p *pieces) proof(l []api.Timeout) {
	p.nums(len(l))
	for _, t := range l {
		p.nums(t.Signer)
		p.cert(t.High)
	}
}

func (p *pieces) block(b api.Block) {
	p.nums(b.View, b.Round, b.Height, b.Author)
	p.cert(b.Parent)
	p.proof(b.Proof)
	p.nums(len(b.Txs))
	for _, t := range b.Txs {
		p.tx(t)
	}
}

// cut: a message's pieces.
func cut(m msg.Msg) pieces {
	var p pieces
	p.nums(m.Kind)
	switch m.Kind {
	case 1, 9:
		p.block(m.Block)
	case 2, 5, 10:
		p.cert(m.Cert)
	case 3:
		p.nums(m.Timeout.Signer, m.Timeout.View)
		p.cert(m.Timeout.High)
	case 4:
		view := 0
		if len(m.Proof) > 0 {
			view = m.Proof[0].View
		}
		p.nums(view)
		p.proof(m.Proof)
	case 6, 12:
		p.nums(m.Signer, m.View)
	case 7:
		p.nums(m.View, int(m.Set))
	case 8:
		p.nums(m.Signer, m.N)
	case 11:
		p.tx(m.Tx)
	}
	return p
}

// join: the bytes of pieces.
func (p pieces) join() string {
	var s strings.Builder
	for _, x := range p {
		s.WriteString(x.s)
	}
	return s.String()
}

// bytesOf: a second reckoning of a message's bytes.
func bytesOf(m msg.Msg) string { return cut(m).join() }

// numbers: their bytes.
func numbers(l ...uint64) string {
	var b []byte
	for _, n := range l {
		b = binary.AppendUvarint(b, n)
	}
	return string(b)
}

// shapes: what stands behind each kind, a letter each: the fields Signer, View, N and Set, a Cert, a Block, a Tx; a timeout is its Signer, its View, and a Cert; a Proof has a letter.
var shapes = []string{1: "B", "C", "svC", "P", "C", "SV", "VE", "SN", "B", "C", "T", "SV"}

// reading: a second reckoning of Parse, by those of the layers below: what is read, and of its numbers whether one is more than its field holds.
type reading struct {
	r     *wire.Reader
	m     msg.Msg
	great bool
}

// num: the next number.
func (x *reading) num() int {
	n := x.r.Num()
	x.great = x.great || n > math.MaxInt32
	return int(n)
}

// one: what a letter stands for.
func (x *reading) one(letter rune) {
	switch letter {
	case 'S':
		x.m.Signer = x.num()
	case 'V':
		x.m.View = x.num()
	case 'N':
		x.m.N = x.num()
	case 'E':
		x.m.Set = uint32(x.num())
	case 's':
		x.m.Timeout.Signer = x.num()
	case 'v':
		x.m.Timeout.View = x.num()
	case 'B':
		x.m.Block = block.Take(x.r)
	case 'T':
		x.m.Tx = tx.Take(x.r)
	case 'C':
		x.m.Cert = cert.Take(x.r)
	case 'P':
		view := x.num()
		for left := x.r.Most(10); left > 0; left-- {
			x.m.Proof = append(x.m.Proof, api.Timeout{View: view, Signer: x.num(), High: cert.Take(x.r)})
		}
	}
}

// told: what Parse tells of bytes, by a second reckoning.
func told(s string) (msg.Msg, api.Errno) {
	if len(s) > 65536 {
		return msg.Msg{}, 2
	}
	x := &reading{r: wire.New([]byte(s))}
	kind := x.r.Num()
	if e := x.r.Done(); e != api.OK && e != api.ErrTail {
		return msg.Msg{}, e
	}
	if kind < 1 || kind > kinds {
		return msg.Msg{}, 140
	}
	x.m.Kind = int(kind)
	for _, letter := range shapes[kind] {
		x.one(letter)
	}
	if kind == 3 {
		x.m.Timeout.High, x.m.Cert = x.m.Cert, api.Cert{}
	}
	e := x.r.Done()
	if e == api.OK && (x.great || !right(x.m)) {
		e = 140
	}
	if e != api.OK {
		return msg.Msg{}, e
	}
	return x.m, api.OK
}

// parsed: does Parse tell this message, or nothing beside this error?
func parsed(t *testing.T, s string, want msg.Msg, e api.Errno) {
	t.Helper()
	if m, got := msg.Parse(s); !same(m, want) || got != e {
		t.Errorf("Parse of % .80x: %+v, error %d, not %+v, %d", s, m, got, want, e)
	}
}

// refused: does Parse tell nothing but this error?
func refused(t *testing.T, s string, e api.Errno) {
	t.Helper()
	parsed(t, s, msg.Msg{}, e)
}

// alike: does Parse tell what the second reckoning does? The error.
func alike(t *testing.T, s string) api.Errno {
	t.Helper()
	m, e := told(s)
	parsed(t, s, m, e)
	return e
}

// below: has a message a number below 0, which no bytes have?
func below(m msg.Msg) bool {
	found := false
	leaves(reflect.ValueOf(m), "", func(_ string, v reflect.Value) { found = found || v.CanInt() && v.Int() < 0 })
	return found
}

// checked: do Check and Bytes tell this, and the second reckoning, too? Of right ones their bytes, of which they are parsed.
func checked(t *testing.T, m msg.Msg, want api.Errno) {
	t.Helper()
	if e := msg.Check(m); e != want {
		t.Errorf("Check(%+v): error %d, not %d", m, e, want)
	}
	if e := why(m); e != want {
		t.Errorf("%+v: error %d by the second reckoning, not %d", m, e, want)
	}
	s, e := msg.Bytes(m)
	if e != want || want != api.OK && s != "" || want == api.OK && s != bytesOf(m) {
		t.Errorf("Bytes(%+v): % x, error %d, not %d", m, s, e, want)
	}
	if want == api.OK {
		parsed(t, s, m, api.OK)
	} else if !below(m) {
		alike(t, bytesOf(m))
	}
}

// alikeTo: does Same tell so of two, whichever comes first?
func alikeTo(t *testing.T, a, b msg.Msg, want bool) {
	t.Helper()
	if msg.Same(a, b) != want || msg.Same(b, a) != want || same(a, b) != want {
		t.Errorf("Same(%+v, %+v): %t, turned round %t, not %t", a, b, msg.Same(a, b), msg.Same(b, a), want)
	}
}

// dice: numbers that look drawn, the same each time.
type dice struct{ seed uint64 }

// drawn: dice with a seed.
func drawn(seed uint64) *dice { return &dice{seed} }

// below: a number from 0 to n less 1.
func (d *dice) below(n int) int {
	d.seed = d.seed*6364136223846793005 + 1442695040888963407
	return int(d.seed >> 33 % uint64(n))
}

// odd: does it happen, once of so many times?
func (d *dice) odd(of int) bool { return d.below(of) == 0 }

// view: one that may be, often a small one.
func (d *dice) view() int {
	return []int{1, 2, 3, 4, 1 + d.below(api.MaxView), api.MaxView}[d.below(6)]
}

// round: one that may be, but the last one.
func (d *dice) round() int {
	return []int{1, 2, 127, 128, 1 + d.below(api.MaxRound-1), api.MaxRound - 1}[d.below(6)]
}

// set: of some replicas.
func (d *dice) set() uint32 { return uint32(1 + d.below(1023)) }

// high: a certificate of each kind that somebody in a view may have.
func (d *dice) high(view int) api.Cert {
	switch {
	case d.odd(6):
		return api.Cert{}
	case d.odd(2) || view == 1:
		return by(regular(1+d.below(view), d.round()), d.set())
	}
	return by(endorsed(1+d.below(view-1), d.round(), 1+d.below(3), d.below(10)), d.set())
}

// proof: timeouts of a view.
func (d *dice) proof(view int) []api.Timeout {
	var l []api.Timeout
	for k := range 10 {
		if d.odd(2) || k == 9 && len(l) == 0 {
			l = append(l, api.Timeout{Signer: k, View: view, High: d.high(view)})
		}
	}
	return l
}

// block: one that may be.
func (d *dice) block() api.Block {
	b := api.Block{View: d.view(), Height: d.below(4), Author: d.below(10)}
	b.Parent = d.high(b.View)
	if b.Height > 1 {
		b.Parent = chained(b.View, d.round(), b.Height-1, b.Author)
	}
	b.Round = b.Parent.Round + 1
	if b.Height == 1 {
		b.Proof = d.proof(b.View)
	}
	for range d.below(3) * d.below(3) {
		b.Txs = append(b.Txs, d.tx())
	}
	return b
}

// tx: one that is right.
func (d *dice) tx() api.Tx {
	return []func(int64) api.Tx{move, put}[d.below(2)](int64(1 + d.below(400)))
}

// msg: one that may be.
func (d *dice) msg() msg.Msg {
	m := msg.Msg{Kind: 1 + d.below(kinds)}
	view, one := d.view(), uint32(1)<<d.below(10)
	switch names[m.Kind] {
	case "Propose", "Give":
		m.Block = d.block()
	case "Vote":
		m.Cert = []api.Cert{by(regular(view, d.round()), one), by(chained(view, d.round(), 1+d.below(3), d.below(10)), one)}[d.below(2)]
	case "GiveUp":
		m.Timeout = api.Timeout{Signer: d.below(10), View: view, High: d.high(view)}
	case "Proof":
		m.Proof = d.proof(view)
	case "Done":
		m.Cert = by(chained(view, d.round(), 3, d.below(10)), d.set())
	case "Elect":
		m.View, m.Set = view, d.set()
	case "Ask":
		m.Signer, m.N = d.below(10), 1+d.below(1<<d.below(31))
	case "High":
		m.Cert = []api.Cert{by(regular(view, d.round()), d.set()), by(endorsed(view, d.round(), 1+d.below(3), d.below(10)), d.set())}[d.below(2)]
	case "Submit":
		m.Tx = d.tx()
	default:
		m.Signer, m.View = d.below(10), view
	}
	return m
}

// spoil: a message with a number or a text changed, most often so that it may be none.
func (d *dice) spoil(m msg.Msg) msg.Msg {
	l := changed(m, []int64{-1, 1, 2, 1 << 32}[d.below(4)])
	return l[d.below(len(l))].m
}

// turn: a text with a byte changed, left away, put in or doubled, cut, or as it is.
func (d *dice) turn(s string) string {
	i, c := d.below(len(s)), string([]byte{byte(d.below(256))})
	switch d.below(7) {
	case 0:
		return s[:i] + c + s[i+1:]
	case 1:
		return s[:i] + s[i+1:]
	case 2:
		return s[:i] + c + s[i:]
	case 3:
		return s[:i] + s[i:i+1] + s[i:]
	case 4:
		return s[:i]
	}
	return s
}
