package tree_test

import (
	"math"
	"reflect"
	"slices"
	"strconv"
	"testing"

	"hallmoot/api"
	"hallmoot/tree"
)

// This file has blocks of which the tests are made, and a second reckoning of what layer 15 tells.

// at: a block of this Round behind that one.
func at(round, parent int) api.Block {
	return api.Block{Round: round, Parent: api.Cert{Block: parent}}
}

// full: a block with all that a block has.
func full(round, parent int) api.Block {
	return api.Block{View: 3, Round: round, Height: 1, Author: 2,
		Parent: api.Cert{Kind: api.Regular, Block: parent, View: 2, Round: round - 1, Signers: 7},
		Proof:  []api.Timeout{{Signer: 0, View: 3, High: api.Cert{Kind: api.Regular, Block: 9, View: 2, Round: 1, Signers: 11}}, {Signer: 3, View: 3}},
		Txs:    []api.Tx{{Kind: api.TxMove, From: "alice", To: "bob", Amount: 5, Nonce: 1}, {Kind: api.TxPut, From: "bob", Key: "k", Val: "v", Nonce: 2}}}
}

// row: a block with its number.
type row struct {
	n int
	b api.Block
}

// wood: a second reckoning of a tree, where all blocks lie in one list, and climbing tells each time which ones are orphans.
type wood struct {
	most, root, round int
	held              []row
}

// find: the block of that number.
func (w *wood) find(n int) (api.Block, bool) {
	for _, x := range w.held {
		if x.n == n {
			return x.b, true
		}
	}
	return api.Block{}, false
}

// climb: the numbers from the one behind that root to n; whether there is such a path.
func (w *wood) climb(n, root int) ([]int, bool) {
	var l []int
	for range len(w.held) + 1 {
		if n == root {
			return l, true
		}
		b, there := w.find(n)
		if !there {
			return nil, false
		}
		l = slices.Insert(l, 0, n)
		n = b.Parent.Block
	}
	return nil, false
}

// orphans: those from which nothing leads to the root.
func (w *wood) orphans() []row {
	var l []row
	for _, x := range w.held {
		if _, in := w.climb(x.n, w.root); !in {
			l = append(l, x)
		}
	}
	return l
}

// orphan: is it one of them?
func (w *wood) orphan(n int) bool {
	return slices.ContainsFunc(w.orphans(), func(x row) bool { return x.n == n })
}

// put: what Put tells, and does.
func (w *wood) put(n int, b api.Block) api.Errno {
	_, held := w.find(n)
	_, hangs := w.climb(b.Parent.Block, w.root)
	switch {
	case n < 1:
		return api.ErrArg
	case held || n == w.root:
		return api.ErrThere
	case b.Round <= w.round:
		return api.ErrOld
	case !hangs && len(w.orphans()) == w.most:
		return api.ErrFull
	}
	w.held = append(w.held, row{n, b})
	if !hangs {
		return api.ErrOrphan
	}
	return api.OK
}

// path: what Path tells.
func (w *wood) path(n int) ([]int, api.Errno) {
	l, in := w.climb(n, w.root)
	switch {
	case in:
		return l, api.OK
	case w.orphan(n):
		return nil, api.ErrOrphan
	}
	return nil, api.ErrBook
}

// prune: what Prune tells, and does.
func (w *wood) prune(n int) api.Errno {
	_, e := w.path(n)
	if e != api.OK || n == w.root {
		return e
	}
	root, _ := w.find(n)
	var stay []row
	for _, x := range w.held {
		_, stays := w.climb(x.n, n)
		if stays && x.n != n || w.orphan(x.n) && x.b.Round > root.Round {
			stay = append(stay, x)
		}
	}
	w.root, w.round, w.held = n, root.Round, stay
	return api.OK
}

// missing: what Missing tells.
func (w *wood) missing() []int {
	var l []int
	for _, x := range w.orphans() {
		if p := x.b.Parent.Block; !w.orphan(p) && !slices.Contains(l, p) {
			l = append(l, p)
		}
	}
	slices.Sort(l)
	return l
}

// both: a tree, and its second reckoning.
type both struct {
	tree *tree.Tree
	wood *wood
}

// sown: both, with room for that many orphans.
func sown(t *testing.T, most int) *both {
	t.Helper()
	return &both{made(t, most), &wood{most: most}}
}

// put: both, and whether they tell the same.
func (x *both) put(t *testing.T, n int, b api.Block) api.Errno {
	t.Helper()
	want := x.wood.put(n, b)
	if e := x.tree.Put(n, b); e != want {
		t.Fatalf("Put(%d, %+v): %d, not %d", n, b, e, want)
	}
	return want
}

// prune: both, and whether they tell the same.
func (x *both) prune(t *testing.T, n int) api.Errno {
	t.Helper()
	want := x.wood.prune(n)
	if e := x.tree.Prune(n); e != want {
		t.Fatalf("Prune(%d): %d, not %d", n, e, want)
	}
	return want
}

// same: do both tell the same, of these numbers too?
func (x *both) same(t *testing.T, numbers []int) {
	t.Helper()
	w := x.wood
	if n, r := x.tree.Root(); n != w.root || r != w.round {
		t.Fatalf("Root: %d, %d, not %d, %d", n, r, w.root, w.round)
	}
	lost := len(w.orphans())
	if in, out := x.tree.Len(); in != len(w.held)-lost || out != lost {
		t.Fatalf("Len: %d, %d, not %d, %d", in, out, len(w.held)-lost, lost)
	}
	if l := x.tree.Missing(); !slices.Equal(l, w.missing()) {
		t.Fatalf("Missing: %v, not %v", l, w.missing())
	}
	for _, n := range numbers {
		want, e := w.path(n)
		path(t, x.tree, n, e, want...)
		if has := x.tree.Has(n); has != (e == api.OK) {
			t.Fatalf("Has(%d): %t", n, has)
		}
		b, there := w.find(n)
		gets(t, x.tree, n, b, there)
	}
}

// gets: is this the block of that number, or is there none?
func gets(t *testing.T, x *tree.Tree, n int, want api.Block, there bool) {
	t.Helper()
	e := api.OK
	if !there {
		want, e = api.Block{}, api.ErrBook
	}
	if b, f := x.Get(n); f != e || !reflect.DeepEqual(b, want) {
		t.Fatalf("Get(%d): %+v, %d, not %+v, %d", n, b, f, want, e)
	}
}

// made: a tree with room for that many orphans.
func made(t *testing.T, most int) *tree.Tree {
	t.Helper()
	x, e := tree.New(most)
	if e != api.OK || x == nil {
		t.Fatalf("New(%d): %v, %d", most, x, e)
	}
	return x
}

// puts: is this what Put tells?
func puts(t *testing.T, x *tree.Tree, n int, b api.Block, want api.Errno) {
	t.Helper()
	if e := x.Put(n, b); e != want {
		t.Fatalf("Put(%d, %+v): %d, not %d", n, b, e, want)
	}
}

// grown: a tree with room for eight orphans, into which each row's block was put, with what Put told.
func grown(t *testing.T, l ...put) *tree.Tree {
	t.Helper()
	x := made(t, 8)
	for _, y := range l {
		puts(t, x, y.n, at(y.round, y.parent), y.e)
	}
	return x
}

// put: a block's number, Round and parent, and what Put tells.
type put struct {
	n, round, parent int
	e                api.Errno
}

// prunes: is this what Prune tells?
func prunes(t *testing.T, x *tree.Tree, n int, want api.Errno) {
	t.Helper()
	if e := x.Prune(n); e != want {
		t.Fatalf("Prune(%d): %d, not %d", n, e, want)
	}
}

// path: is this what Path tells?
func path(t *testing.T, x *tree.Tree, n int, want api.Errno, l ...int) {
	t.Helper()
	if m, e := x.Path(n); e != want || !slices.Equal(m, l) {
		t.Fatalf("Path(%d): %v, %d, not %v, %d", n, m, e, l, want)
	}
}

// missing: is this what Missing tells?
func missing(t *testing.T, x *tree.Tree, l ...int) {
	t.Helper()
	if m := x.Missing(); !slices.Equal(m, l) {
		t.Fatalf("Missing: %v, not %v", m, l)
	}
}

// size: is this what Len tells?
func size(t *testing.T, x *tree.Tree, in, out int) {
	t.Helper()
	if a, b := x.Len(); a != in || b != out {
		t.Fatalf("Len: %d, %d, not %d, %d", a, b, in, out)
	}
}

// root: is this what Root tells?
func root(t *testing.T, x *tree.Tree, n, round int) {
	t.Helper()
	if a, b := x.Root(); a != n || b != round {
		t.Fatalf("Root: %d, %d, not %d, %d", a, b, n, round)
	}
}

// has: of these numbers, does it have those alone that are in the tree?
func has(t *testing.T, x *tree.Tree, numbers, in []int) {
	t.Helper()
	for _, n := range numbers {
		if b := x.Has(n); b != slices.Contains(in, n) {
			t.Fatalf("Has(%d): %t", n, b)
		}
	}
}

// answers: all that a tree tells of these numbers, and by itself.
func answers(x *tree.Tree, numbers []int) string {
	n, r := x.Root()
	in, out := x.Len()
	s := words(n, r, in, out) + "missing " + words(x.Missing()...)
	for _, n := range numbers {
		l, e := x.Path(n)
		b, f := x.Get(n)
		s += words(n, int(e), int(f)) + strconv.FormatBool(x.Has(n)) + " path " + words(l...) + " block " + of(b)
	}
	return s
}

// words: numbers, with blanks between.
func words(l ...int) string {
	s := ""
	for _, n := range l {
		s += strconv.Itoa(n) + " "
	}
	return s
}

// of: a block, as words.
func of(b api.Block) string {
	s := words(b.View, b.Round, b.Height, b.Author) + certWords(b.Parent) + "proof "
	for _, t := range b.Proof {
		s += words(t.Signer, t.View) + certWords(t.High)
	}
	for _, t := range b.Txs {
		s += words(t.Kind, int(t.Amount), int(t.Nonce)) + strconv.Quote(t.From) + strconv.Quote(t.To) + strconv.Quote(t.Key) + strconv.Quote(t.Val)
	}
	return s
}

// certWords: a certificate, as words.
func certWords(c api.Cert) string {
	return words(c.Kind, c.Block, c.View, c.Round, c.Height, c.Author, int(c.Signers), int(c.Coin))
}

// ends: numbers far off, some of which are something else when they are cut to 32 bits.
func ends() []int {
	return []int{math.MinInt, math.MinInt + 1, -1 << 32, -1<<32 + 1, -1 << 31, -2, -1, 1<<31 - 1, 1 << 31, 1<<32 - 1, 1 << 32, 1<<32 + 1, 1 << 62, math.MaxInt - 1, math.MaxInt}
}

// few: small numbers, and one below and above them.
func few(most int) []int {
	var l []int
	for n := -2; n <= most+1; n++ {
		l = append(l, n)
	}
	return l
}

// orders: all orders of a list.
func orders[T any](l []T) [][]T {
	if len(l) == 0 {
		return [][]T{nil}
	}
	var all [][]T
	for _, o := range orders(l[1:]) {
		for i := range len(o) + 1 {
			all = append(all, slices.Insert(slices.Clone(o), i, l[0]))
		}
	}
	return all
}

// dice: numbers that look drawn, the same each time.
type dice struct{ seed uint64 }

// below: a number from 0 to n less 1.
func (d *dice) below(n int) int {
	d.seed = d.seed*6364136223846793005 + 1442695040888963407
	return int(d.seed >> 33 % uint64(n))
}

// mixed: the list in another order.
func mixed[T any](d *dice, l []T) []T {
	l = slices.Clone(l)
	for i := len(l) - 1; i > 0; i-- {
		k := d.below(i + 1)
		l[i], l[k] = l[k], l[i]
	}
	return l
}
