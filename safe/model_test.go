package safe_test

import (
	"encoding/binary"
	"math"
	"reflect"
	"slices"
	"strings"

	"hallmoot/api"
	"hallmoot/block"
	"hallmoot/cert"
	"hallmoot/safe"
)

// This file has records of which the tests are made, and a second reckoning of what layer 19 tells: by all that was done, from the beginning on.

// regular: a certificate of the fast path.
func regular(n, view, round int) api.Cert {
	return api.Cert{Kind: 1, Block: n, View: view, Round: round, Signers: 7}
}

// chained: a certificate of somebody's chain of the fallback.
func chained(n, view, round, height, author int) api.Cert {
	return api.Cert{Kind: 2, Block: n, View: view, Round: round, Height: height, Author: author, Signers: 11}
}

// endorsed: one of a chain that a coin elected.
func endorsed(n, view, round, height, author int) api.Cert {
	return coined(chained(n, view, round, height, author), 3)
}

// coined: a certificate with coin shares.
func coined(c api.Cert, set uint32) api.Cert {
	c.Coin = set
	return c
}

// signed: a certificate with other signers.
func signed(c api.Cert, set uint32) api.Cert {
	c.Signers = set
	return c
}

// aVote: a record of Kind 1.
func aVote(n, view, round int, parent api.Cert) safe.Rec {
	return safe.Rec{Kind: 1, Cert: signed(regular(n, view, round), 1), Parent: parent}
}

// aFall: a record of Kind 4.
func aFall(n, view, round, height, author int, parent api.Cert) safe.Rec {
	return safe.Rec{Kind: 4, Cert: signed(chained(n, view, round, height, author), 2), Parent: parent}
}

// a: a record of a kind that names nothing.
func a(kind int) safe.Rec { return safe.Rec{Kind: kind} }

// aHigh: a record of Kind 5.
func aHigh(c api.Cert) safe.Rec { return safe.Rec{Kind: 5, Cert: c} }

// anExit: a record of Kind 7.
func anExit(set uint32, author int) safe.Rec { return safe.Rec{Kind: 7, Set: set, Author: author} }

// aCommit: a record of Kind 8.
func aCommit(count, n int) safe.Rec { return safe.Rec{Kind: 8, Count: count, Block: n} }

// anOwn: a record of Kind 9.
func anOwn(text string) safe.Rec { return safe.Rec{Kind: 9, Text: text} }

// aKeep: a record of Kind 10.
func aKeep(text string) safe.Rec { return safe.Rec{Kind: 10, Text: text} }

// text: the bytes of a block of this View, Round, Height and Author; above Height 1 of a Round from 2 on.
func text(view, round, height, author int) string {
	b := api.Block{View: view, Round: round, Height: height, Author: author}
	switch {
	case height > 1:
		b.Parent = chained(round, view, round-1, height-1, author)
	case round > 1:
		b.Parent = regular(round, 1, round-1)
	}
	if height == 1 {
		b.Proof = []api.Timeout{{Signer: 2, View: view}}
	}
	s, e := block.Bytes(b)
	if e != api.OK {
		panic("no block")
	}
	return string(s)
}

// longText: the bytes of a block with as many transactions as there may be.
func longText(view int) string {
	b := api.Block{View: view, Round: 1, Author: 9}
	for nonce := range 8 {
		b.Txs = append(b.Txs, api.Tx{Kind: api.TxPut, From: strings.Repeat("é", 32), Key: strings.Repeat("ω", 32), Val: strings.Repeat("€", 32), Nonce: 1<<62 - int64(nonce)})
	}
	s, e := block.Bytes(b)
	if e != api.OK {
		panic("no block")
	}
	return string(s)
}

// noTexts: bytes of no block.
func noTexts() []string {
	t := text(2, 1, 0, 0)
	return []string{"", "\x00", "a", "\xff\xff", t[:len(t)-1], t + "\x00", t[1:], "\x80\x00" + t[1:], t + t, strings.Repeat("\x01", 1<<16), strings.Repeat("\x01", 1<<16+1)}
}

// names: what records of each kind name: Cert, Parent, Set, Author, Number (Count), Block, Text.
func names(kind int) string {
	if kind < 1 || kind > 10 {
		return ""
	}
	return []string{"CP", "", "", "CP", "C", "", "SA", "NB", "T", "T"}[kind-1]
}

// without: a record from which something is taken away.
func without(r safe.Rec, name rune) safe.Rec {
	switch name {
	case 'C':
		r.Cert = api.Cert{}
	case 'P':
		r.Parent = api.Cert{}
	case 'S':
		r.Set = 0
	case 'A':
		r.Author = 0
	case 'N':
		r.Count = 0
	case 'B':
		r.Block = 0
	case 'T':
		r.Text = ""
	}
	return r
}

// wrong: a second reckoning of why there is no such record.
func wrong(r safe.Rec) api.Errno {
	rest := r
	for _, name := range names(r.Kind) {
		rest = without(rest, name)
	}
	if rest != a(r.Kind) || r.Kind < 1 || r.Kind > 10 {
		return api.ErrSafe
	}
	kinds := map[int][]bool{1: {false, true, false, false}, 4: {false, false, true, false}, 5: {false, true, false, true}}
	if want, asked := kinds[r.Kind]; asked {
		kind := r.Cert.Kind
		if kind == 2 && r.Cert.Coin != 0 {
			kind = 3
		}
		if cert.Check(r.Cert) != api.OK || !want[kind] || cert.Check(r.Parent) != api.OK {
			return api.ErrCert
		}
	}
	if r.Kind == 7 && (r.Set == 0 || r.Set>>10 != 0 || r.Author < 0 || r.Author > 9) {
		return api.ErrArg
	}
	if r.Kind == 8 && (min(r.Count, r.Block) < 1 || max(r.Count, r.Block) > 2147483647) {
		return api.ErrArg
	}
	if _, e := block.Parse(r.Text); e != api.OK && r.Kind > 8 {
		return api.ErrBlock
	}
	return api.OK
}

// rank: how high a certificate is, as one number.
func rank(c api.Cert) int {
	fallback := 0
	if c.Kind == 2 {
		fallback = 1 << 31
	}
	return c.View<<32 + fallback + c.Round
}

// history is all that was done, from view 1 on.
type history struct {
	last int
	done []safe.Rec
}

// begins: where the records of the view begin that is the one after so many of all.
func (h history) begins(upto int) int {
	for i := upto; i > 0; i-- {
		if h.done[i-1].Kind == 7 {
			return i
		}
	}
	return 0
}

// now: the records of this view.
func (h history) now() []safe.Rec { return h.done[h.begins(len(h.done)):] }

// latest: the latest of records that is told apart so, and whether there is one.
func latest(l []safe.Rec, is func(safe.Rec) bool) (safe.Rec, bool) {
	for _, r := range slices.Backward(l) {
		if is(r) {
			return r, true
		}
	}
	return safe.Rec{}, false
}

// mode: which one records of one view lead to.
func mode(l []safe.Rec) int {
	switch {
	case slices.ContainsFunc(l, func(r safe.Rec) bool { return r.Kind == 3 }):
		return 2
	case slices.ContainsFunc(l, func(r safe.Rec) bool { return r.Kind == 2 }):
		return 1
	}
	return 0
}

// head: the highest certificate of an author's chain that votes of one view have shown.
func head(l []safe.Rec, author int) api.Cert {
	best := api.Cert{}
	for _, r := range l {
		p := r.Parent
		if r.Kind == 4 && r.Cert.Author == author && p.Author == author && p.Kind == 2 && p.Coin == 0 && p.View == r.Cert.View && p.Height > best.Height {
			best = p
		}
	}
	return best
}

// high: the highest certificate after so many records; of those of one rank the first.
func (h history) high(upto int) api.Cert {
	best := api.Cert{}
	for i, r := range h.done[:upto] {
		c := api.Cert{}
		switch r.Kind {
		case 1:
			c = r.Parent
		case 5:
			c = r.Cert
		case 7:
			if c = head(h.done[h.begins(i):i], r.Author); c.Kind == 2 {
				c.Coin = r.Set
			}
		}
		if rank(c) > rank(best) {
			best = c
		}
	}
	return best
}

// gaveHigh: what it was at the first record that left the fast path of this view.
func (h history) gaveHigh() api.Cert {
	from := h.begins(len(h.done))
	for i := from; i < len(h.done); i++ {
		if h.done[i].Kind == 2 || h.done[i].Kind == 3 {
			return h.high(i)
		}
	}
	return api.Cert{}
}

// state: the state that all of it leads to.
func (h history) state() safe.Safe {
	l := h.now()
	s := safe.Safe{Last: h.last, View: 1, Mode: mode(l), High: h.high(len(h.done)), GaveHigh: h.gaveHigh()}
	v, _ := latest(l, func(r safe.Rec) bool { return r.Kind == 1 })
	s.Round, s.Block = v.Cert.Round, v.Cert.Block
	for author := range 10 {
		if f, is := latest(l, func(r safe.Rec) bool { return r.Kind == 4 && r.Cert.Author == author }); is {
			s.Falls = append(s.Falls, signed(f.Cert, 0))
		}
		if c := head(l, author); c.Kind == 2 {
			s.Heads = append(s.Heads, c)
		}
	}
	_, s.Shared = latest(l, func(r safe.Rec) bool { return r.Kind == 6 })
	for height := range 4 {
		o, _ := latest(l, func(r safe.Rec) bool { return r.Kind == 9 && heightOf(r.Text) == height })
		s.Own[height] = o.Text
	}
	for _, r := range h.done {
		switch r.Kind {
		case 7:
			s.View, s.Past = s.View+1, append(s.Past, r.Set)
		case 8:
			s.Count, s.Tip = r.Count, r.Block
		case 10:
			s.Blocks = append(s.Blocks, r.Text)
		}
	}
	return s
}

// heightOf: that of a block's bytes.
func heightOf(text string) int {
	b, _ := block.Parse(text)
	return b.Height
}

// why: a second reckoning of what Do tells behind all of it, by the state that it leads to.
func why(s safe.Safe, r safe.Rec) api.Errno {
	if e := wrong(r); e != api.OK {
		return e
	}
	b, _ := block.Parse(r.Text)
	mine, _ := block.Parse(s.Own[b.Height])
	fell := 0
	for _, c := range s.Falls {
		if c.Author == r.Cert.Author {
			fell = c.Height
		}
	}
	l := map[int][]struct {
		right bool
		e     api.Errno
	}{
		1:  {{s.Mode == 0, api.ErrMode}, {r.Cert.View == s.View, api.ErrView}, {r.Cert.Round > s.Round, api.ErrRound}, {r.Cert.Round-1 == r.Parent.Round, api.ErrRound}, {rank(r.Parent) >= rank(s.High), api.ErrRank}},
		2:  {{s.Mode == 0, api.ErrMode}},
		3:  {{s.Mode < 2, api.ErrMode}},
		4:  {{s.Mode == 2, api.ErrMode}, {r.Cert.View == s.View, api.ErrView}, {r.Cert.Height > fell, api.ErrHeight}},
		5:  {{rank(r.Cert) > rank(s.High), api.ErrRank}},
		6:  {{s.Mode == 2, api.ErrMode}, {!s.Shared, api.ErrThere}},
		7:  {{s.View < s.Last, api.ErrHalt}},
		8:  {{r.Count > s.Count, api.ErrOld}},
		9:  {{b.View == s.View, api.ErrView}, {b.Height == 0 || mine.View == 0, api.ErrHeight}, {b.Height > 0 || b.Round > mine.Round, api.ErrRound}},
		10: {{!slices.Contains(s.Blocks, r.Text), api.ErrThere}},
	}
	for _, x := range l[r.Kind] {
		if !x.right {
			return x.e
		}
	}
	return api.OK
}

// written: the bytes of numbers, by the library's numbers of this form.
func written(l ...int) string {
	var b []byte
	for _, n := range l {
		b = binary.AppendUvarint(b, uint64(n))
	}
	return string(b)
}

// writtenText: the bytes of a text.
func writtenText(s string) string { return written(len(s)) + s }

// writtenCert: the bytes of a certificate, right or not.
func writtenCert(c api.Cert) string {
	l := []int{c.Kind, c.Block, c.View, c.Round, int(c.Signers), c.Height, c.Author, int(c.Coin)}
	return written(l[:map[int]int{0: 1, 1: 5, 2: 8}[c.Kind]]...)
}

// bytesOf: a second reckoning of a record's bytes.
func bytesOf(r safe.Rec) string {
	s := written(r.Kind)
	for _, name := range names(r.Kind) {
		switch name {
		case 'C':
			s += writtenCert(r.Cert)
		case 'P':
			s += writtenCert(r.Parent)
		case 'S':
			s += written(int(r.Set))
		case 'A':
			s += written(r.Author)
		case 'N':
			s += written(r.Count)
		case 'B':
			s += written(r.Block)
		case 'T':
			s += writtenText(r.Text)
		}
	}
	return s
}

// piece is a part of a snapshot, by the name of what it tells.
type piece struct{ name, s string }

// cut: a state's snapshot in pieces.
func cut(s safe.Safe) []piece {
	var l []piece
	add := func(name, s string) { l = append(l, piece{name, s}) }
	add("Last", written(s.Last))
	add("View", written(s.View))
	add("Mode", written(s.Mode))
	add("Round", written(s.Round))
	add("Block", written(s.Block))
	add("High", writtenCert(s.High))
	add("GaveHigh", writtenCert(s.GaveHigh))
	add("Falls", written(len(s.Falls)))
	for _, c := range s.Falls {
		add("Fall", writtenCert(signed(c, 1)))
	}
	add("Heads", written(len(s.Heads)))
	for _, c := range s.Heads {
		add("Head", writtenCert(c))
	}
	add("Shared", written(map[bool]int{true: 1}[s.Shared]))
	for height, own := range s.Own {
		add("Own"+string(rune('0'+height)), writtenText(own))
	}
	add("Past", written(len(s.Past)))
	for _, set := range s.Past {
		add("Set", written(int(set)))
	}
	add("Count", written(s.Count))
	add("Tip", written(s.Tip))
	add("Blocks", written(len(s.Blocks)))
	for _, kept := range s.Blocks {
		add("Kept", writtenText(kept))
	}
	return l
}

// join: the bytes of pieces.
func join(l []piece) string {
	var all strings.Builder
	for _, x := range l {
		all.WriteString(x.s)
	}
	return all.String()
}

// snapshotOf: a second reckoning of a state's bytes.
func snapshotOf(s safe.Safe) string { return join(cut(s)) }

// replaced: a snapshot with the first piece of a name replaced by other bytes.
func replaced(s safe.Safe, name, bytes string) string {
	l := cut(s)
	i := slices.IndexFunc(l, func(x piece) bool { return x.name == name })
	if i < 0 {
		panic("no piece " + name)
	}
	l[i].s = bytes
	return join(l)
}

// copied: a state in memory of its own, whose lists without items are nil.
func copied(s safe.Safe) safe.Safe {
	s.Falls, s.Heads, s.Past = append([]api.Cert(nil), s.Falls...), append([]api.Cert(nil), s.Heads...), append([]uint32(nil), s.Past...)
	s.Blocks = append([]string(nil), s.Blocks...)
	for i := range s.Blocks {
		s.Blocks[i] = strings.Clone(s.Blocks[i])
	}
	for i := range s.Own {
		s.Own[i] = strings.Clone(s.Own[i])
	}
	return s
}

// same: a second reckoning of Same, field by field.
func same(a, b safe.Safe) bool { return reflect.DeepEqual(copied(a), copied(b)) }

// dice: numbers that look drawn, the same each time.
type dice struct{ seed uint64 }

// below: a number from 0 to n less 1.
func (d *dice) below(n int) int {
	d.seed = d.seed*6364136223846793005 + 1442695040888963407
	return int(d.seed >> 33 % uint64(n))
}

// odd: does it happen, once of so many times?
func (d *dice) odd(of int) bool { return d.below(of) == 0 }

// cert: one that may be, near a view.
func (d *dice) cert(view int) api.Cert {
	v := max(1, view-1+d.below(3))
	switch d.below(6) {
	case 0:
		return api.Cert{}
	case 1, 2:
		return regular(1+d.below(5), v, 1+d.below(6))
	case 3:
		return endorsed(1+d.below(5), v, 1+d.below(6), 1+d.below(3), d.below(10))
	}
	return chained(1+d.below(5), v, 1+d.below(6), 1+d.below(3), d.below(10))
}

// vote: one near what may be done.
func (d *dice) vote(s safe.Safe) safe.Rec {
	p := s.High
	if d.odd(2) {
		p = d.cert(s.View)
	}
	if d.odd(3) {
		p = regular(1+d.below(5), s.View, s.Round+d.below(3)+1)
	}
	r := aVote(1+d.below(9), s.View, p.Round+1, p)
	if d.odd(6) {
		r.Cert.Round = 1 + d.below(9)
	}
	if d.odd(8) {
		r.Cert.View = max(1, s.View-1+d.below(3))
	}
	return r
}

// fall: one near what may be done.
func (d *dice) fall(s safe.Safe) safe.Rec {
	author, height := d.below(4), 1+d.below(3)
	p := chained(1+d.below(5), s.View, 1+d.below(6), max(1, height-d.below(2)), author)
	if d.odd(3) {
		p = d.cert(s.View)
	}
	if d.odd(6) {
		p.Coin = 0
	}
	r := aFall(1+d.below(9), s.View, p.Round+1, height, author, p)
	if d.odd(8) {
		r.Cert.View = max(1, s.View-1+d.below(3))
	}
	return r
}

// rec: a record near what may be done in a state.
func (d *dice) rec(s safe.Safe) safe.Rec {
	switch d.below(17) {
	case 0, 1, 2:
		return d.vote(s)
	case 3:
		return a(2)
	case 4:
		return a(3)
	case 5, 6, 7, 8:
		return d.fall(s)
	case 9:
		return aHigh(d.cert(s.View))
	case 10:
		return a(6)
	case 11:
		return anExit(uint32(d.below(1024)), d.below(4))
	case 12, 13:
		return aCommit(s.Count+d.below(3), d.below(100))
	case 14:
		return aKeep(text(1+d.below(3), 2+d.below(5), d.below(4), d.below(4)))
	case 15:
		return d.spoiled(d.rec(s))
	}
	return anOwn(text(max(1, s.View-d.below(3)/2), 2+d.below(9), d.below(4), d.below(4)))
}

// spoiled: a record with something changed.
func (d *dice) spoiled(r safe.Rec) safe.Rec {
	n := []int{-1, 0, 1, 2, 3, 10, 11, 1 << 10, 1<<31 - 1, 1 << 31, 1<<32 + 1, math.MaxInt, math.MinInt}[d.below(13)]
	switch d.below(9) {
	case 0:
		r.Kind = n
	case 1:
		r.Cert.Round = n
	case 2:
		r.Parent.Height = n
	case 3:
		r.Set = uint32(n)
	case 4:
		r.Author = n
	case 5:
		r.Count = n
	case 6:
		r.Block = n
	case 7:
		r.Text = "x"
	case 8:
		r.Cert.Kind = n
	}
	return r
}

// ends: numbers far off, some of which are something else when they are cut to 32 bits or fewer.
func ends() []int {
	return []int{math.MinInt, math.MinInt + 1, -1 << 62, -1<<32 - 1, -1 << 32, -1<<32 + 1, -1 << 31, -256, -10, -2, -1, 1<<31 - 1, 1 << 31, 1<<31 + 1,
		1<<32 - 1, 1 << 32, 1<<32 + 1, 1<<32 + 2, 1<<32 + 3, 1<<33 + 1, 1<<62 - 1, 1 << 62, 1<<62 + 1, math.MaxInt - 1, math.MaxInt}
}
