package valid_test

import (
	"slices"
	"testing"

	"hallmoot/api"
	"hallmoot/block"
	"hallmoot/book"
	"hallmoot/cert"
	"hallmoot/coin"
	"hallmoot/sign"
	"hallmoot/valid"
)

// This file fills registers as a run fills them, and has a second reckoning of what layer 13 tells.

// world: registers, and what was put into them, as the second reckoning knows it.
type world struct {
	law      valid.Law
	f, coinF int
	bad      uint32
	contents []string
	entered  []entry
	issued   map[api.Share]int
	chosen   map[int]int
	seen     map[int]int
}

// entry: the block of a content, if it is one.
type entry struct {
	b api.Block
	e api.Errno
}

// empty: registers without anything.
func empty(t *testing.T, f int, bad uint32) *world {
	t.Helper()
	s, e := sign.New(f, bad)
	c, e2 := coin.New(f)
	if e != api.OK || e2 != api.OK {
		t.Fatalf("registers of F %d, bad %#x: errors %d, %d", f, bad, e, e2)
	}
	return &world{law: valid.Law{Book: book.New(), Sign: s, Coin: c}, f: f, coinF: f, bad: bad, issued: map[api.Share]int{}, chosen: map[int]int{}, seen: map[int]int{}}
}

// parts: bits that say which registers are there.
const (
	hasBook = 1 << iota
	hasSign
	hasCoin
	hasAll = hasBook | hasSign | hasCoin
)

// with: the same registers, but those that these bits don't name are nil.
func (w *world) with(parts int) *world {
	few := *w
	if parts&hasBook == 0 {
		few.law.Book = nil
	}
	if parts&hasSign == 0 {
		few.law.Sign = nil
	}
	if parts&hasCoin == 0 {
		few.law.Coin = nil
	}
	return &few
}

// all: how many replicas.
func (w *world) all() int { return 3*w.f + 1 }

// quorum: how many make one.
func (w *world) quorum() int { return 2*w.f + 1 }

// enter: a content's number.
func (w *world) enter(t *testing.T, s string) int {
	t.Helper()
	n, e := w.law.Book.Enter(s)
	if e != api.OK {
		t.Fatalf("Enter(%q): error %d", s, e)
	}
	if n == len(w.contents)+1 {
		b, e := block.Parse(s)
		w.contents, w.entered = append(w.contents, s), append(w.entered, entry{b, e})
	}
	if w.contents[n-1] != s {
		t.Fatalf("Enter(%q): %d", s, n)
	}
	return n
}

// write: the number of a block, whose author issues nothing.
func (w *world) write(t *testing.T, b api.Block) int {
	t.Helper()
	s, e := block.Bytes(b)
	if e != api.OK {
		t.Fatalf("Bytes of %+v: error %d", b, e)
	}
	return w.enter(t, string(s))
}

// propose: the number of a block, which its author signs.
func (w *world) propose(t *testing.T, b api.Block) int {
	t.Helper()
	n := w.write(t, b)
	w.issue(t, block.Proposal(n, b), 1<<b.Author)
	return n
}

// issue: what those of a set sign who are replicas. A bad one needn't: its share counts anyhow.
func (w *world) issue(t *testing.T, stmt api.Stmt, set uint32) {
	t.Helper()
	for k := range w.all() {
		if set>>k&1 == 0 || w.bad>>k&1 == 1 {
			continue
		}
		x := api.Share{Signer: k, Stmt: stmt}
		if e := w.law.Sign.Issue(x); e != api.OK {
			t.Fatalf("Issue(%+v): error %d", x, e)
		}
		w.issued[x]++
	}
}

// vote: a certificate's signers sign it.
func (w *world) vote(t *testing.T, c api.Cert) {
	t.Helper()
	w.issue(t, stmtOf(c), c.Signers)
}

// quit: somebody gives up.
func (w *world) quit(t *testing.T, x api.Timeout) {
	t.Helper()
	w.issue(t, signedOf(x), 1<<x.Signer)
}

// toss: those of a set sign a view's coin.
func (w *world) toss(t *testing.T, view int, set uint32) {
	t.Helper()
	w.issue(t, api.Stmt{Kind: api.SCoin, View: view}, set)
}

// choose: whom a view's coin elects.
func (w *world) choose(t *testing.T, view, who int) {
	t.Helper()
	if e := w.law.Coin.Choose(view, who); e != api.OK {
		t.Fatalf("Choose(%d, %d): error %d", view, who, e)
	}
	w.chosen[view] = who
}

// stmtOf: what was signed for a certificate, made without the packages.
func stmtOf(c api.Cert) api.Stmt {
	if c.Kind == api.Regular {
		return api.Stmt{Kind: api.SVote, Block: c.Block, View: c.View, Round: c.Round}
	}
	return api.Stmt{Kind: api.SFall, Block: c.Block, View: c.View, Round: c.Round, Height: c.Height, Author: c.Author}
}

// signedOf: what was signed for a timeout.
func signedOf(x api.Timeout) api.Stmt {
	return api.Stmt{Kind: api.STimeout, View: x.View, HKind: x.High.Kind, HBlock: x.High.Block, HView: x.High.View, HRound: x.High.Round}
}

// proposalOf: what was signed for a block.
func proposalOf(n int, b api.Block) api.Stmt {
	return api.Stmt{Kind: api.SPropose, Block: n, View: b.View, Round: b.Round, Height: b.Height, Author: b.Author}
}

// size: how many are in a set.
func size(set uint32) int {
	n := 0
	for k := range 32 {
		n += int(set >> k & 1)
	}
	return n
}

// ring: so many of all replicas, one behind the other from one on, around.
func (w *world) ring(from, count int) uint32 {
	set := uint32(0)
	for k := range count {
		set |= 1 << ((from + k) % w.all())
	}
	return set
}

// full: all replicas.
func (w *world) full() uint32 { return w.ring(0, w.all()) }

// members: of a set, rising.
func members(set uint32) []int {
	var l []int
	for k := range 32 {
		if set>>k&1 == 1 {
			l = append(l, k)
		}
	}
	return l
}

// The second reckoning.

// content: the block of a number.
func (w *world) content(n int) (api.Block, api.Errno) {
	if w.law.Book == nil {
		return api.Block{}, api.ErrNil
	}
	if n < 1 || n > len(w.contents) {
		return api.Block{}, api.ErrBook
	}
	if one := w.entered[n-1]; one.e == api.OK {
		return one.b, api.OK
	}
	return api.Block{}, api.ErrBlock
}

// number: of a block.
func (w *world) number(b api.Block) (int, api.Errno) {
	// A block that may be is never too long.
	if e := block.Check(b); e != api.OK {
		return 0, e
	}
	if w.law.Book == nil {
		return 0, api.ErrNil
	}
	for i, one := range w.entered {
		if one.e == api.OK && block.Same(b, one.b) {
			return i + 1, api.OK
		}
	}
	return 0, api.ErrBook
}

// counts: does somebody's share?
func (w *world) counts(k int, stmt api.Stmt) api.Errno {
	if w.law.Sign == nil {
		return api.ErrNil
	}
	if k < 0 || k >= w.all() {
		return api.ErrSigner
	}
	if w.bad>>k&1 == 0 && w.issued[api.Share{Signer: k, Stmt: stmt}] == 0 {
		return api.ErrForged
	}
	return api.OK
}

// enough: do the shares of a set, and so many?
func (w *world) enough(stmt api.Stmt, set uint32, least int) api.Errno {
	if w.law.Sign == nil {
		return api.ErrNil
	}
	if set>>w.all() != 0 {
		return api.ErrSigner
	}
	for _, k := range members(set) {
		if e := w.counts(k, stmt); e != api.OK {
			return e
		}
	}
	if size(set) < least {
		return api.ErrFew
	}
	return api.OK
}

// cert: is it valid?
func (w *world) cert(c api.Cert) api.Errno {
	if cert.Check(c) != api.OK {
		return api.ErrCert
	}
	if c == (api.Cert{}) {
		return api.OK
	}
	b, e := w.content(c.Block)
	if e != api.OK {
		return e
	}
	author := c.Author
	if c.Kind == api.Regular {
		author = b.Author
	}
	if [4]int{b.View, b.Round, b.Height, b.Author} != [4]int{c.View, c.Round, c.Height, author} {
		return api.ErrCert
	}
	if e := w.enough(stmtOf(c), c.Signers, w.quorum()); e != api.OK {
		return e
	}
	if c.Kind == api.Regular || c.Coin == 0 {
		return api.OK
	}
	return w.elects(c)
}

// elects: did the coin elect its author?
func (w *world) elects(c api.Cert) api.Errno {
	if w.law.Coin == nil {
		return api.ErrNil
	}
	if w.coinF != w.f {
		return api.ErrArg
	}
	if e := w.enough(api.Stmt{Kind: api.SCoin, View: c.View}, c.Coin, w.f+1); e != api.OK {
		return e
	}
	w.seen[c.View]++
	who, there := w.chosen[c.View]
	if !there {
		who = c.View % w.all()
	}
	if who != c.Author {
		return api.ErrCoin
	}
	return api.OK
}

// timeout: is it valid?
func (w *world) timeout(x api.Timeout) api.Errno {
	if block.Timeout(x) != api.OK {
		return api.ErrProof
	}
	if e := w.counts(x.Signer, signedOf(x)); e != api.OK {
		return e
	}
	return w.cert(x.High)
}

// proof: is it valid?
func (w *world) proof(view int, p []api.Timeout) api.Errno {
	for i := range p {
		if p[i].View != view || i > 0 && p[i-1].Signer >= p[i].Signer {
			return api.ErrProof
		}
	}
	for _, x := range p {
		if e := w.timeout(x); e != api.OK {
			return e
		}
	}
	if w.law.Sign == nil {
		return api.ErrNil
	}
	if len(p) < w.quorum() {
		return api.ErrFew
	}
	return api.OK
}

// block: is it valid? Its number.
func (w *world) block(b api.Block) (int, api.Errno) {
	n, e := w.number(b)
	if e != api.OK {
		return 0, e
	}
	if w.law.Sign == nil {
		return 0, api.ErrNil
	}
	if b.Author >= w.all() || b.Height == 0 && b.Author != b.Round%w.all() {
		return 0, api.ErrSigner
	}
	if e := w.counts(b.Author, proposalOf(n, b)); e != api.OK {
		return 0, e
	}
	if e := w.cert(b.Parent); e != api.OK {
		return 0, e
	}
	if b.Height != 1 {
		return n, api.OK
	}
	if e := w.proof(b.View, b.Proof); e != api.OK {
		return 0, e
	}
	for _, x := range b.Proof {
		if below(b.Parent, x.High) {
			return 0, api.ErrRank
		}
	}
	return n, api.OK
}

// below: by rank.
func below(a, b api.Cert) bool {
	if a.View != b.View {
		return a.View < b.View
	}
	if (a.Kind == api.Fallback) != (b.Kind == api.Fallback) {
		return b.Kind == api.Fallback
	}
	return a.Round < b.Round
}

// highest: the first one that none is above.
func highest(p []api.Timeout) api.Cert {
	for i, x := range p {
		if !slices.ContainsFunc(p, func(y api.Timeout) bool { return below(x.High, y.High) }) {
			return p[i].High
		}
	}
	return api.Cert{}
}

// What layer 13 tells, held against what is expected, and against the second reckoning; the registers must stay as they are.

// state: what is told of registers; of coins whether those of the views up to so many, and of the last ones, were seen.
type state struct {
	contents, shares, f int
	bad                 uint32
	seen                [16]bool
}

// views: those of whose coins state tells.
func views() [16]int {
	m := api.MaxView
	return [16]int{0, 1, 2, 3, 4, 5, 6, 7, 8, 9, 10, m - 3, m - 2, m - 1, m, m + 1}
}

// now: what is told of the registers.
func (w *world) now() state {
	s := state{contents: w.law.Book.Len(), shares: len(w.law.Sign.Shares()), f: w.law.Sign.F(), bad: w.law.Sign.Bad()}
	for i, view := range views() {
		s.seen[i] = w.law.Coin.Seen(view)
	}
	return s
}

// expected: what the second reckoning has for that.
func (w *world) expected() state {
	var s state
	if w.law.Book != nil {
		s.contents = len(w.contents)
	}
	if w.law.Sign != nil {
		s.shares, s.f, s.bad = len(w.issued), w.f, w.bad
	}
	for i, view := range views() {
		s.seen[i] = w.law.Coin != nil && w.seen[view] > 0
	}
	return s
}

// stays: are the registers as they must be?
func (w *world) stays(t *testing.T) {
	t.Helper()
	if now, want := w.now(), w.expected(); now != want {
		t.Fatalf("registers: %+v, not %+v", now, want)
	}
}

// certIs: is a certificate's error this one?
func (w *world) certIs(t *testing.T, c api.Cert, want api.Errno) {
	t.Helper()
	if e := w.law.Cert(c); e != want {
		t.Errorf("Cert(%+v): %d, not %d", c, e, want)
	}
	if e := w.cert(c); e != want {
		t.Errorf("Cert(%+v): a second reckoning tells %d, not %d", c, e, want)
	}
	w.stays(t)
}

// timeoutIs: is a timeout's?
func (w *world) timeoutIs(t *testing.T, x api.Timeout, want api.Errno) {
	t.Helper()
	if e := w.law.Timeout(x); e != want {
		t.Errorf("Timeout(%+v): %d, not %d", x, e, want)
	}
	if e := w.timeout(x); e != want {
		t.Errorf("Timeout(%+v): a second reckoning tells %d, not %d", x, e, want)
	}
	w.stays(t)
}

// proofIs: is a proof's?
func (w *world) proofIs(t *testing.T, view int, p []api.Timeout, want api.Errno) {
	t.Helper()
	before := slices.Clone(p)
	if e := w.law.Proof(view, p); e != want {
		t.Errorf("Proof(%d, %+v): %d, not %d", view, p, e, want)
	}
	if !slices.Equal(p, before) {
		t.Errorf("Proof(%d, %+v): was %+v", view, p, before)
	}
	if e := w.proof(view, p); e != want {
		t.Errorf("Proof(%d, %+v): a second reckoning tells %d, not %d", view, p, e, want)
	}
	w.stays(t)
}

// blockIs: is a block's, and its number?
func (w *world) blockIs(t *testing.T, b api.Block, want int, e api.Errno) {
	t.Helper()
	before := clone(b)
	if n, got := w.law.Block(b); n != want || got != e {
		t.Errorf("Block(%+v): %d, error %d, not %d, %d", b, n, got, want, e)
	}
	if !block.Same(b, before) {
		t.Errorf("Block(%+v): was %+v", b, before)
	}
	if n, got := w.block(b); n != want || got != e {
		t.Errorf("Block(%+v): a second reckoning tells %d, error %d, not %d, %d", b, n, got, want, e)
	}
	w.stays(t)
}

// numberIs: is it?
func (w *world) numberIs(t *testing.T, b api.Block, want int, e api.Errno) {
	t.Helper()
	before := clone(b)
	if n, got := w.law.Number(b); n != want || got != e {
		t.Errorf("Number(%+v): %d, error %d, not %d, %d", b, n, got, want, e)
	}
	if !block.Same(b, before) {
		t.Errorf("Number(%+v): was %+v", b, before)
	}
	if n, got := w.number(b); n != want || got != e {
		t.Errorf("Number(%+v): a second reckoning tells %d, error %d, not %d, %d", b, n, got, want, e)
	}
	w.stays(t)
}

// contentIs: is it?
func (w *world) contentIs(t *testing.T, n int, want api.Block, e api.Errno) {
	t.Helper()
	if b, got := w.law.Content(n); !block.Same(b, want) || got != e {
		t.Errorf("Content(%d): %+v, error %d, not %+v, %d", n, b, got, want, e)
	}
	if b, got := w.content(n); !block.Same(b, want) || got != e {
		t.Errorf("Content(%d): a second reckoning tells %+v, error %d, not %+v, %d", n, b, got, want, e)
	}
	w.stays(t)
}

// clone: the same block, with lists of its own.
func clone(b api.Block) api.Block {
	b.Proof, b.Txs = slices.Clone(b.Proof), slices.Clone(b.Txs)
	return b
}

// A run.

// run: a world, and what is valid in it.
type run struct {
	*world
	blocks   []api.Block
	numbers  []int
	certs    []api.Cert
	timeouts []api.Timeout
	proofs   [][]api.Timeout
}

// move: a transaction that is right.
func move(nonce int) api.Tx {
	return api.Tx{Kind: api.TxMove, From: "alice", To: "bob", Amount: 300, Nonce: int64(nonce)}
}

// put: another one.
func put(nonce int) api.Tx {
	return api.Tx{Kind: api.TxPut, From: "bob", Key: "a", Val: "b c", Nonce: int64(nonce)}
}

// certOf: a block's certificate, of these signers.
func certOf(n int, b api.Block, signers uint32) api.Cert {
	c := api.Cert{Kind: api.Regular, Block: n, View: b.View, Round: b.Round, Signers: signers}
	if b.Height > 0 {
		c.Kind, c.Height, c.Author = api.Fallback, b.Height, b.Author
	}
	return c
}

// behind: a block is proposed, and these sign its certificate.
func (w *world) behind(t *testing.T, b api.Block, signers uint32) api.Cert {
	t.Helper()
	c := certOf(w.propose(t, b), b, signers)
	w.vote(t, c)
	return c
}

// held: likewise, and both are valid.
func (r *run) held(t *testing.T, b api.Block, signers uint32) api.Cert {
	t.Helper()
	c := r.behind(t, b, signers)
	r.blocks, r.numbers, r.certs = append(r.blocks, b), append(r.numbers, c.Block), append(r.certs, c)
	return c
}

// next: a block of the fast path behind a certificate.
func (w *world) next(view int, parent api.Cert) api.Block {
	round := parent.Round + 1
	return api.Block{View: view, Round: round, Author: round % w.all(), Parent: parent, Txs: []api.Tx{move(round), put(view)}}
}

// fast: so many blocks of the fast path, and the highest certificate.
func (r *run) fast(t *testing.T, view, count int, high api.Cert) api.Cert {
	t.Helper()
	for i := range count {
		high = r.held(t, r.next(view, high), r.ring(view+i, r.quorum()+i%2))
	}
	return high
}

// giveUp: all replicas give up a view; one of them alone knows the higher certificate.
func (r *run) giveUp(t *testing.T, view int, low, high api.Cert) []api.Timeout {
	t.Helper()
	var l []api.Timeout
	for k := range r.all() {
		x := api.Timeout{Signer: k, View: view, High: low}
		if k == view%r.all() {
			x.High = high
		}
		r.quit(t, x)
		l = append(l, x)
	}
	r.timeouts = append(r.timeouts, l...)
	return l
}

// chosen: those of a set, of the timeouts of all.
func chosen(all []api.Timeout, set uint32) []api.Timeout {
	var l []api.Timeout
	for _, k := range members(set) {
		l = append(l, all[k])
	}
	return l
}

// chain: somebody's three blocks of the fallback.
func (r *run) chain(t *testing.T, view, author int, parent api.Cert, proof []api.Timeout) [3]api.Cert {
	t.Helper()
	r.proofs = append(r.proofs, proof)
	var l [3]api.Cert
	for i := range l {
		b := api.Block{View: view, Round: parent.Round + 1, Height: i + 1, Author: author, Parent: parent, Txs: []api.Tx{put(author + 1)}}
		if i == 0 {
			b.Proof = proof
		}
		parent = r.held(t, b, r.ring(author+i, r.quorum()+i%2))
		l[i] = parent
	}
	return l
}

// ended: a view is given up by all, each one grows a chain, and its coin elects one, who is chosen in each second view; of that chain's last block the certificate that is endorsed.
func (r *run) ended(t *testing.T, view int, low, high api.Cert) api.Cert {
	t.Helper()
	all := r.giveUp(t, view, low, high)
	var chains [][3]api.Cert
	for k := range r.all() {
		// The Proofs have a quorum, or more, with and without the one who knows more; the Parents are the Highest of them, or above.
		p := chosen(all, r.ring(k, r.quorum()+k%(r.f+1)))
		parent := high
		if k%2 == 0 {
			parent = highest(p)
		}
		chains = append(chains, r.chain(t, view, k, parent, p))
	}
	who := view % r.all()
	if view%2 == 0 {
		who = (who + 2) % r.all()
		r.choose(t, view, who)
	}
	r.toss(t, view, r.full())
	for i, c := range chains[who] {
		c.Coin = r.ring(view+i, r.f+1+i%2)
		r.certs = append(r.certs, c)
		high = c
	}
	return high
}

// ran: registers as a run of three views fills them, from the genesis on.
func ran(t *testing.T, f int, bad uint32) *run {
	t.Helper()
	r := &run{world: empty(t, f, bad), certs: []api.Cert{{}}}
	var low, high api.Cert
	for view := 1; view <= 3; view++ {
		low = r.fast(t, view, 1, high)
		high = r.fast(t, view, 2, low)
		high = r.ended(t, view, low, high)
	}
	r.fast(t, 4, 2, high)
	return r
}

// ranToTheEnd: another one, of the last view, whose rounds end with the last one. It goes on from a block that isn't valid, of which nobody asks that.
func ranToTheEnd(t *testing.T, f int, bad uint32) *run {
	t.Helper()
	r := &run{world: empty(t, f, bad)}
	far := api.Cert{Kind: api.Regular, Block: 1<<31 - 1, View: api.MaxView - 1, Round: api.MaxRound - 8, Signers: 1}
	base := r.next(api.MaxView-1, far)
	n := r.write(t, base)
	low := api.Cert{Kind: api.Regular, Block: n, View: base.View, Round: base.Round, Signers: r.full()}
	r.vote(t, low)
	r.certs = append(r.certs, low)
	low = r.fast(t, api.MaxView, 2, low)
	high := r.fast(t, api.MaxView, 2, low)
	r.ended(t, api.MaxView, low, high)
	if !slices.ContainsFunc(r.certs, func(c api.Cert) bool { return c.Round == api.MaxRound }) {
		t.Fatal("no certificate of the last round")
	}
	return r
}

// runs: of each F, without bad replicas, with some, and with as many as may be, at both ends of the views.
func runs(t *testing.T) []*run {
	t.Helper()
	l := []*run{ran(t, 1, 0), ran(t, 1, 8), ran(t, 1, 1), ran(t, 2, 0), ran(t, 2, 0x12), ran(t, 2, 0x40), ran(t, 3, 0), ran(t, 3, 0x281), ran(t, 3, 4)}
	for f, bad := range []uint32{0, 2, 0x21, 7} {
		if f > 0 {
			l = append(l, ranToTheEnd(t, f, 0), ranToTheEnd(t, f, bad))
		}
	}
	return l
}

// What looks drawn.

// dice: numbers that look drawn, the same in each run of the tests.
type dice struct{ state uint64 }

// drawn: of a seed.
func drawn(seed uint64) *dice { return &dice{seed} }

// below: from 0 on, below n.
func (d *dice) below(n int) int {
	d.state = d.state*6364136223846793005 + 1442695040888963407
	return int((d.state >> 33) % uint64(n))
}

// odd: once of so many times.
func (d *dice) odd(of int) bool { return d.below(of) == 0 }

// step: from -1 to 2, seldom far.
func (d *dice) step() int {
	if d.odd(20) {
		return d.below(1 << 31)
	}
	return d.below(4) - 1
}

// cert: one of a run, now and then with something changed, and then now and then signed by all.
func (d *dice) cert(t *testing.T, r *run) api.Cert {
	c := r.certs[d.below(len(r.certs))]
	if c.Kind == api.Genesis {
		c = r.certs[d.below(len(r.certs))]
	}
	for range []int{0, 0, 1, 1, 1, 2}[d.below(6)] {
		switch d.below(10) {
		case 0:
			c.Kind = d.below(4)
		case 1:
			c.Block += d.step()
		case 2:
			c.View += d.step()
		case 3:
			c.Round += d.step()
		case 4:
			c.Height += d.step()
		case 5:
			c.Author += d.step()
		case 6:
			c.Signers ^= 1 << d.below(11)
		case 7:
			c.Signers = r.ring(d.below(r.all()), 2*r.f+d.below(3))
		case 8:
			c.Coin ^= 1 << d.below(11)
		case 9:
			c.Coin = r.ring(d.below(r.all()), r.f+d.below(3))
		}
	}
	if d.odd(8) {
		r.issue(t, stmtOf(c), c.Signers)
	}
	return c
}

// timeout: one of a run, likewise.
func (d *dice) timeout(t *testing.T, r *run) api.Timeout {
	x := r.timeouts[d.below(len(r.timeouts))]
	switch d.below(8) {
	case 0:
		x.Signer += d.step()
	case 1:
		x.View += d.step()
	case 2, 3:
		x.High = d.cert(t, r)
	}
	if d.odd(2) && x.Signer >= 0 && x.Signer < r.all() {
		r.issue(t, signedOf(x), 1<<x.Signer)
	}
	return x
}

// proof: one of a run, likewise.
func (d *dice) proof(t *testing.T, r *run) []api.Timeout {
	p := slices.Clone(r.proofs[d.below(len(r.proofs))])
	switch i := d.below(len(p)); d.below(8) {
	case 0:
		p = slices.Delete(p, i, i+1)
	case 1:
		p[i] = d.timeout(t, r)
	case 2:
		p[i] = p[0]
	case 3:
		p[i].High = d.cert(t, r)
		r.issue(t, signedOf(p[i]), 1<<p[i].Signer)
	case 4:
		p[i] = r.timeouts[d.below(len(r.timeouts))]
	case 5:
		p = p[:i+1]
	}
	return p
}

// block: one of a run, likewise, and then now and then entered and signed.
func (d *dice) block(t *testing.T, r *run) api.Block {
	b := clone(r.blocks[d.below(len(r.blocks))])
	for range []int{0, 1, 1, 1, 2}[d.below(5)] {
		switch d.below(8) {
		case 0:
			b.View += d.step()
		case 1:
			b.Round += d.step()
		case 2:
			b.Height += d.step()
		case 3:
			b.Author += d.step()
		case 4:
			b.Parent = d.cert(t, r)
			b.Round = b.Parent.Round + 1
		case 5:
			b.Txs = append(b.Txs, put(d.below(3)))
		default:
			if b.Height == 1 {
				b.Proof = d.proof(t, r)
			}
		}
	}
	if block.Check(b) == api.OK && !d.odd(4) {
		if s, e := block.Bytes(b); e == api.OK {
			n := r.enter(t, string(s))
			if !d.odd(4) {
				r.issue(t, proposalOf(n, b), 1<<b.Author)
			}
		}
	}
	return b
}
