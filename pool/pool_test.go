package pool_test

import (
	"cmp"
	"fmt"
	"maps"
	"math"
	"slices"
	"strings"
	"testing"
	"unsafe"

	"hallmoot/api"
	"hallmoot/pool"
	"hallmoot/tx"
)

// move: a transaction.
func move(from string, nonce, amount int64) api.Tx {
	return api.Tx{Kind: api.TxMove, From: from, To: "z", Amount: amount, Nonce: nonce}
}

// put: a transaction.
func put(from string, nonce int64, key, val string) api.Tx {
	return api.Tx{Kind: api.TxPut, From: from, Key: key, Val: val, Nonce: nonce}
}

// numbered: so many transactions, all unlike, no two of one From and Nonce, neither in the order of names nor of nonces.
func numbered(n int) []api.Tx {
	var l []api.Tx
	for k := range int64(n) {
		from := string(rune('a' + (k*7+3)%5))
		if k%3 == 0 {
			l = append(l, put(from, 1000-k, "k", "v"))
			continue
		}
		l = append(l, move(from, 1000-k, 1))
	}
	return l
}

// repeated: a list so many times over.
func repeated(l []api.Tx, times int) []api.Tx { return slices.Repeat(l, times) }

// wrongs: transactions that aren't right.
func wrongs() []api.Tx {
	l := []api.Tx{{}, {Kind: api.TxMove}, {Kind: api.TxPut}}
	for _, who := range []string{"", "A", "9", "-a", "a b", "\xff", "a\xff", strings.Repeat("a", 33), strings.Repeat("a", 70000)} {
		toWho := move("a", 1, 1)
		toWho.To = who
		l = append(l, move(who, 1, 1), put(who, 1, "k", "v"), put("a", 1, who, "v"), toWho)
	}
	for _, n := range []int64{0, -1, math.MinInt64, api.MaxInt + 1, math.MaxInt64} {
		l = append(l, move("a", n, 1), move("a", 1, n), put("a", n, "k", "v"))
	}
	for _, kind := range []int{0, -1, 3, math.MinInt, math.MaxInt, 1<<32 + 1, 1<<32 + 2} {
		x, y := move("a", 1, 1), put("a", 1, "k", "v")
		x.Kind, y.Kind = kind, kind
		l = append(l, x, y)
	}
	// What a kind doesn't name isn't zero.
	x, y := move("a", 1, 1), put("a", 1, "k", "v")
	x.Key, y.To = "k", "z"
	l = append(l, x, y)
	x, y = move("a", 1, 1), put("a", 1, "k", "v")
	x.Val, y.Amount = "v", 1
	return append(l, x, y, put("a", 1, "k", "\n"), put("a", 1, "k", strings.Repeat("v", 33)))
}

// shown: transactions, so short that they can be told.
func shown(l ...api.Tx) string {
	var b strings.Builder
	for _, x := range l {
		s, e := tx.Print(x)
		if e != api.OK {
			s = fmt.Sprintf("wrong: %q", fmt.Sprintf("%+v", x))
		}
		fmt.Fprintf(&b, "[%.100s]", s)
	}
	return fmt.Sprintf("%.1500s", b.String())
}

// empty: a pool in which none wait.
func empty(t *testing.T, most int) *pool.Pool {
	t.Helper()
	p, e := pool.New(most)
	if p == nil || e != api.OK {
		t.Fatalf("New(%d): %v, error %d", most, p != nil, e)
	}
	return p
}

// filled: a pool in which these wait.
func filled(t *testing.T, most int, l ...api.Tx) *pool.Pool {
	t.Helper()
	p := empty(t, most)
	adds(t, p, l...)
	return p
}

// adds: do these wait, if they are added?
func adds(t *testing.T, p *pool.Pool, l ...api.Tx) {
	t.Helper()
	for _, x := range l {
		if e := p.Add(x); e != api.OK {
			t.Fatalf("Add(%s): error %d", shown(x), e)
		}
	}
}

// refuses: is this error told of a transaction, and is nothing changed?
func refuses(t *testing.T, p *pool.Pool, x api.Tx, want api.Errno) {
	t.Helper()
	before := p.All()
	for range 2 {
		if e := p.Add(x); e != want {
			t.Errorf("Add(%s): error %d, not %d", shown(x), e, want)
		}
	}
	waits(t, p, before...)
}

// waits: do these wait, in this order, and no others?
func waits(t *testing.T, p *pool.Pool, want ...api.Tx) {
	t.Helper()
	if l := p.All(); !slices.Equal(l, want) {
		t.Errorf("All: %s, not %s", shown(l...), shown(want...))
	}
	if n := p.Len(); n != len(want) {
		t.Errorf("Len: %d, not %d", n, len(want))
	}
}

// batch: is it this one, and is nothing changed?
func batch(t *testing.T, p *pool.Pool, n int, without []api.Tx, want ...api.Tx) {
	t.Helper()
	before := p.All()
	for range 2 {
		if l := p.Batch(n, without); !slices.Equal(l, want) {
			t.Errorf("Batch(%d, %s): %s, not %s", n, shown(without...), shown(l...), shown(want...))
		}
	}
	waits(t, p, before...)
}

// drops: do so many of these wait no more?
func drops(t *testing.T, p *pool.Pool, want int, l ...api.Tx) {
	t.Helper()
	if n := p.Drop(l); n != want {
		t.Errorf("Drop(%s): %d, not %d", shown(l...), n, want)
	}
}

// passes: do so many of somebody's wait no more?
func passes(t *testing.T, p *pool.Pool, want int, who string, nonce int64) {
	t.Helper()
	if n := p.Past(who, nonce); n != want {
		t.Errorf("Past(%.40q, %d): %d, not %d", who, nonce, n, want)
	}
}

func TestP10_1_New(t *testing.T) {
	for most := 1; most <= api.MaxPool; most++ {
		p := empty(t, most)
		waits(t, p)
		batch(t, p, 5, nil)
	}
	for _, most := range []int{0, -1, -2, -64, api.MaxPool + 1, api.MaxPool + 2, 128, 1 << 31, 1 << 32, 1<<32 + 1, -1 << 32, 1 - 1<<32,
		math.MaxInt, math.MinInt, math.MinInt + 1, math.MinInt + 64} {
		if p, e := pool.New(most); p != nil || e != api.ErrArg {
			t.Errorf("New(%d): %v, error %d, not nil, ErrArg", most, p != nil, e)
		}
	}
}

func TestP10_1_Examples(t *testing.T) {
	p := empty(t, 1)
	adds(t, p, move("a", 1, 1))
	refuses(t, p, move("a", 1, 2), api.ErrFull)
	refuses(t, p, move("a", 1, 1), api.ErrThere)
	waits(t, p, move("a", 1, 1))
}

// TestP10_1_AddUpToTheMost: from an empty one, past one that is short of one, to a full one.
func TestP10_1_AddUpToTheMost(t *testing.T) {
	for _, most := range []int{1, 2, 3, 8, 63, api.MaxPool} {
		l := numbered(most + 3)
		p := empty(t, most)
		for n, x := range l[:most] {
			waits(t, p, l[:n]...)
			adds(t, p, x)
			waits(t, p, l[:n+1]...)
			refuses(t, p, x, api.ErrThere)
			refuses(t, p, api.Tx{}, api.ErrTx)
		}
		for _, x := range l[most:] {
			refuses(t, p, x, api.ErrFull)
		}
		waits(t, p, l[:most]...)
		// Somebody's next one, and a second one of a From and Nonce that wait, are too many all the same.
		refuses(t, p, move(l[0].From, 2000, 1), api.ErrFull)
		refuses(t, p, move(l[0].From, l[0].Nonce, 77), api.ErrFull)
	}
}

// TestP10_1_AddTheSameTwice: side by side and far apart, into one that has room and into a full one.
func TestP10_1_AddTheSameTwice(t *testing.T) {
	for _, most := range []int{1, 2, 10, api.MaxPool} {
		l := numbered(most)
		p := empty(t, most)
		for n, x := range l {
			adds(t, p, x)
			refuses(t, p, x, api.ErrThere)
			for _, past := range l[:n+1] {
				if e := p.Add(past); e != api.ErrThere {
					t.Errorf("Add(%s) behind %d others: error %d, not ErrThere", shown(past), n, e)
				}
			}
		}
		for _, x := range l {
			refuses(t, p, x, api.ErrThere)
		}
		waits(t, p, l...)
	}
}

// alike: transactions of which some differ in one field alone, and some in what they are.
func alike() []api.Tx {
	base, other := move("alice", 5, 7), put("alice", 5, "k", "v")
	l := []api.Tx{base, other}
	add := func(x api.Tx, change func(*api.Tx)) {
		change(&x)
		l = append(l, x)
	}
	for _, x := range []api.Tx{base, other} {
		for _, from := range []string{"alic", "alices", "álice", "bob"} {
			add(x, func(y *api.Tx) { y.From = from })
		}
		for _, nonce := range []int64{4, 6, 1<<32 + 5, api.MaxInt} {
			add(x, func(y *api.Tx) { y.Nonce = nonce })
		}
	}
	for _, to := range []string{"zz", "alice", "a"} {
		add(base, func(y *api.Tx) { y.To = to })
	}
	for _, amount := range []int64{6, 8, 1<<32 + 7, api.MaxInt} {
		add(base, func(y *api.Tx) { y.Amount = amount })
	}
	for _, key := range []string{"kk", "l", "alice"} {
		add(other, func(y *api.Tx) { y.Key = key })
	}
	for _, val := range []string{"", "V", "v ", "vv", "k"} {
		add(other, func(y *api.Tx) { y.Val = val })
	}
	return l
}

// TestP10_1_AddOneThatDiffersInOneField: each is another one, which waits beside the rest.
func TestP10_1_AddOneThatDiffersInOneField(t *testing.T) {
	l := alike()
	p := filled(t, api.MaxPool, l...)
	waits(t, p, l...)
	for _, x := range l {
		refuses(t, p, x, api.ErrThere)
	}
	for n, x := range l {
		// Only this one is left out, dropped, or there already.
		p := filled(t, len(l), l...)
		left := slices.Delete(slices.Clone(l), n, n+1)
		drops(t, p, 1, x)
		waits(t, p, left...)
		adds(t, p, x)
		waits(t, p, append(left, x)...)
	}
	for _, x := range l[1:] {
		p := filled(t, 2, l[0])
		batch(t, p, 9, []api.Tx{x}, l[0])
		drops(t, p, 0, x)
		adds(t, p, x)
		waits(t, p, l[0], x)
	}
}

// TestP10_1_AddOneThatIsNotRight: into an empty one, one that has room, and a full one.
func TestP10_1_AddOneThatIsNotRight(t *testing.T) {
	l := numbered(3)
	for _, x := range wrongs() {
		if e := tx.Check(x); e != api.ErrTx {
			t.Fatalf("Check(%s): error %d", shown(x), e)
		}
		for n := range 4 {
			refuses(t, filled(t, 3, l[:n]...), x, api.ErrTx)
		}
		refuses(t, filled(t, 1, l[0]), x, api.ErrTx)
	}
}

// TestP10_1_WhichErrorComesFirst: where two would do.
func TestP10_1_WhichErrorComesFirst(t *testing.T) {
	waiting, wrong := move("a", 1, 1), move("a", 1, 0)
	full := filled(t, 1, waiting)
	refuses(t, full, wrong, api.ErrTx)
	refuses(t, full, waiting, api.ErrThere)
	refuses(t, full, move("b", 1, 1), api.ErrFull)
	refuses(t, filled(t, 2, waiting), waiting, api.ErrThere)
	if e := (*pool.Pool)(nil).Add(wrong); e != api.ErrNil {
		t.Errorf("Add of a wrong one to nil: error %d, not ErrNil", e)
	}
}

// TestP10_2_BatchOfSoMany: below 0, of 0, up to as many as wait, and of more.
func TestP10_2_BatchOfSoMany(t *testing.T) {
	for _, size := range []int{0, 1, 2, 7, api.MaxPool - 1, api.MaxPool} {
		l := numbered(size)
		p := filled(t, api.MaxPool, l...)
		for n := range size + 1 {
			batch(t, p, n, nil, l[:n]...)
			batch(t, p, n, []api.Tx{}, l[:n]...)
		}
		for _, n := range []int{size + 1, size + 2, 65, 1 << 31, 1 << 32, math.MaxInt - 1, math.MaxInt} {
			batch(t, p, n, nil, l...)
		}
		for _, n := range []int{-1, -2, -64, -1 << 31, -1 << 32, 1 - 1<<32, math.MinInt + 1, math.MinInt} {
			batch(t, p, n, nil)
			batch(t, p, n, l)
		}
	}
}

// TestP10_2_BatchWithout: none, one, some, one twice, all, and some that don't wait.
func TestP10_2_BatchWithout(t *testing.T) {
	l := numbered(6)
	p := filled(t, 6, l...)
	others := slices.Concat(numbered(20)[6:], wrongs(), []api.Tx{move(l[1].From, l[1].Nonce, 99)})
	for n := range 9 {
		till := func(want ...api.Tx) []api.Tx { return want[:min(n, len(want))] }
		batch(t, p, n, others, till(l...)...)
		batch(t, p, n, l[:1], till(l[1:]...)...)
		batch(t, p, n, l[5:], till(l[:5]...)...)
		batch(t, p, n, []api.Tx{l[4], l[1]}, till(l[0], l[2], l[3], l[5])...)
		batch(t, p, n, []api.Tx{l[1], l[1], l[4], l[1]}, till(l[0], l[2], l[3], l[5])...)
		batch(t, p, n, slices.Concat(others, []api.Tx{l[2]}, others, []api.Tx{l[0]}), till(l[1], l[3], l[4], l[5])...)
		batch(t, p, n, l)
		batch(t, p, n, repeated(l, 2))
		batch(t, p, n, slices.Concat(others, l))
	}
	// Far more than may wait.
	batch(t, p, 9, repeated(others, 200), l...)
	batch(t, p, 9, append(repeated(others, 200), l[:5]...), l[5])
	batch(t, empty(t, 3), 9, l)
}

// TestP10_2_BatchOfOneFromAndNonce: the first one alone, which needn't be the first that waits.
func TestP10_2_BatchOfOneFromAndNonce(t *testing.T) {
	a1, a1x, a1k, a1l := move("a", 1, 1), move("a", 1, 2), put("a", 1, "k", "v"), put("a", 1, "k", "w")
	a2, b1, b1x, aa1 := move("a", 2, 1), move("b", 1, 1), put("b", 1, "k", "v"), move("aa", 1, 1)
	// Side by side.
	p := filled(t, 9, a1, a1x, a1k, a1l)
	batch(t, p, 9, nil, a1)
	batch(t, p, 1, nil, a1)
	batch(t, p, 9, []api.Tx{a1}, a1x)
	batch(t, p, 9, []api.Tx{a1, a1x}, a1k)
	batch(t, p, 9, []api.Tx{a1x, a1k}, a1)
	batch(t, p, 9, []api.Tx{a1k, a1x, a1}, a1l)
	batch(t, p, 9, []api.Tx{a1l, a1k, a1x, a1})
	// Far apart: the same nonce of another one, and the same one's other nonce, stand between.
	p = filled(t, 9, a1, b1, a2, aa1, a1k, b1x, a1x)
	batch(t, p, 9, nil, a1, b1, a2, aa1)
	batch(t, p, 3, nil, a1, b1, a2)
	batch(t, p, 9, []api.Tx{a1}, b1, a2, aa1, a1k)
	batch(t, p, 4, []api.Tx{a1}, b1, a2, aa1, a1k)
	batch(t, p, 3, []api.Tx{a1}, b1, a2, aa1)
	batch(t, p, 9, []api.Tx{b1}, a1, a2, aa1, b1x)
	batch(t, p, 9, []api.Tx{a1, b1}, a2, aa1, a1k, b1x)
	batch(t, p, 9, []api.Tx{a1k, b1, a1}, a2, aa1, b1x, a1x)
	batch(t, p, 9, []api.Tx{a1x, a1l}, a1, b1, a2, aa1)
	// One of without that doesn't wait takes nobody's place.
	batch(t, p, 9, []api.Tx{a1l, move("b", 1, 9), move("a", 2, 9)}, a1, b1, a2, aa1)
	// What wasn't taken waits on: it is the first one behind a Drop.
	drops(t, p, 1, a1)
	batch(t, p, 9, nil, b1, a2, aa1, a1k)
}

// TestP10_2_BatchOfFromsAndNoncesThatLookAlike: each is of its own.
func TestP10_2_BatchOfFromsAndNoncesThatLookAlike(t *testing.T) {
	l := []api.Tx{move("a", 1, 1), move("a", 11, 1), move("a1", 1, 1), move("a", 1<<32+1, 1), move("á", 1, 1), move("a", api.MaxInt, 1), move("a_", 1, 1), move("a-", 1, 1),
		put("z", 1, "k", "v"), put("k", 1, "z", "v")}
	batch(t, filled(t, 20, l...), 20, nil, l...)
	slices.Reverse(l)
	batch(t, filled(t, 20, l...), 20, nil, l...)
}

// orders: all orders of a list.
func orders(l []api.Tx) [][]api.Tx {
	if len(l) == 0 {
		return [][]api.Tx{nil}
	}
	var all [][]api.Tx
	for n, x := range l {
		for _, rest := range orders(slices.Delete(slices.Clone(l), n, n+1)) {
			all = append(all, append([]api.Tx{x}, rest...))
		}
	}
	return all
}

// TestP10_3_BatchesOfAllOrders: of few transactions in each order, without each set of them, of each number.
func TestP10_3_BatchesOfAllOrders(t *testing.T) {
	for _, l := range orders([]api.Tx{move("a", 1, 1), move("a", 1, 2), put("a", 1, "k", "v"), move("a", 2, 1), put("b", 1, "k", "v")}) {
		p, m := filled(t, 5, l...), modelOf(5)
		for _, x := range l {
			m.add(x)
		}
		for set := range 1 << len(l) {
			var without []api.Tx
			for n, x := range l {
				if set>>n&1 == 1 {
					without = append(without, x)
				}
			}
			for n := range len(l) + 2 {
				some(t, p, n, without)
				if got, want := p.Batch(n, without), m.batch(n, without); !slices.Equal(got, want) {
					t.Fatalf("Batch(%d, %s) of %s: %s, not %s", n, shown(without...), shown(l...), shown(got...), shown(want...))
				}
			}
		}
		waits(t, p, l...)
	}
}

// some: are a batch's some that wait, each once, of one From and Nonce one, none of without, and not more than were asked for?
func some(t *testing.T, p *pool.Pool, n int, without []api.Tx) {
	t.Helper()
	type turn struct {
		from  string
		nonce int64
	}
	all, turns := p.All(), map[turn]int{}
	l := p.Batch(n, without)
	if len(l) > max(n, 0) {
		t.Errorf("Batch(%d, ..): %d", n, len(l))
	}
	for _, x := range l {
		turns[turn{x.From, x.Nonce}]++
		if !slices.Contains(all, x) || slices.Contains(without, x) || turns[turn{x.From, x.Nonce}] > 1 {
			t.Errorf("Batch(%d, %s) of %s: %s", n, shown(without...), shown(all...), shown(l...))
		}
	}
}

func TestP10_2_Drop(t *testing.T) {
	l := numbered(5)
	for _, c := range []struct {
		drop  []api.Tx
		count int
		left  []api.Tx
	}{
		{nil, 0, l},
		{[]api.Tx{}, 0, l},
		{l, 5, nil},
		{repeated(l, 3), 5, nil},
		{l[:1], 1, l[1:]},
		{l[4:], 1, l[:4]},
		{[]api.Tx{l[2]}, 1, []api.Tx{l[0], l[1], l[3], l[4]}},
		{[]api.Tx{l[2], l[2]}, 1, []api.Tx{l[0], l[1], l[3], l[4]}},
		{[]api.Tx{l[3], l[1], l[3], l[3]}, 2, []api.Tx{l[0], l[2], l[4]}},
		{[]api.Tx{l[4], l[0], l[2], l[3]}, 4, []api.Tx{l[1]}},
		{numbered(9)[5:], 0, l},
		{slices.Concat(wrongs(), numbered(9)[4:]), 1, l[:4]},
		{[]api.Tx{move(l[0].From, l[0].Nonce, 99)}, 0, l},
		{wrongs(), 0, l},
	} {
		p := filled(t, 5, l...)
		drops(t, p, c.count, c.drop...)
		waits(t, p, c.left...)
		batch(t, p, 9, nil, c.left...)
		// Again: they don't wait any more.
		drops(t, p, 0, c.drop...)
		waits(t, p, c.left...)
	}
	p := empty(t, 5)
	drops(t, p, 0, l...)
	drops(t, p, 0)
	waits(t, p)
}

// TestP10_2_AddBehindDrop: what was dropped may come again, as the last one; there is room again.
func TestP10_2_AddBehindDrop(t *testing.T) {
	for _, most := range []int{1, 2, 5, api.MaxPool} {
		l := numbered(most + 1)
		for n := range most {
			p := filled(t, most, l[:most]...)
			refuses(t, p, l[most], api.ErrFull)
			drops(t, p, 1, l[n])
			left := slices.Delete(slices.Clone(l[:most]), n, n+1)
			waits(t, p, left...)
			adds(t, p, l[n])
			waits(t, p, append(left, l[n])...)
			refuses(t, p, l[n], api.ErrThere)
			refuses(t, p, l[most], api.ErrFull)
		}
		p := filled(t, most, l[:most]...)
		drops(t, p, most, l...)
		for n := range most {
			adds(t, p, l[most-n])
		}
		refuses(t, p, l[0], api.ErrFull)
		backward := slices.Clone(l[1:])
		slices.Reverse(backward)
		waits(t, p, backward...)
	}
}

func TestP10_2_Past(t *testing.T) {
	a2, a2x, a5, a3, a9 := move("a", 2, 1), put("a", 2, "k", "v"), move("a", 5, 1), put("a", 3, "k", "v"), move("a", api.MaxInt, 1)
	b1, b3, aa2, at := move("b", 1, 1), put("b", 3, "a", "v"), move("aa", 2, 1), move("c", 2, 1)
	at.To = "a"
	l := []api.Tx{a5, b1, a2, aa2, a3, b3, a2x, at, a9}
	for _, c := range []struct {
		who   string
		nonce int64
		count int
		left  []api.Tx
	}{
		// Below, at and above those that wait.
		{"a", math.MinInt64, 0, l}, {"a", -1, 0, l}, {"a", 0, 0, l}, {"a", 1, 0, l},
		{"a", 2, 2, []api.Tx{a5, b1, aa2, a3, b3, at, a9}},
		{"a", 3, 3, []api.Tx{a5, b1, aa2, b3, at, a9}},
		{"a", 4, 3, []api.Tx{a5, b1, aa2, b3, at, a9}},
		{"a", 5, 4, []api.Tx{b1, aa2, b3, at, a9}},
		{"a", 6, 4, []api.Tx{b1, aa2, b3, at, a9}},
		{"a", 1<<32 + 1, 4, []api.Tx{b1, aa2, b3, at, a9}},
		{"a", api.MaxInt - 1, 4, []api.Tx{b1, aa2, b3, at, a9}},
		{"a", api.MaxInt, 5, []api.Tx{b1, aa2, b3, at}},
		{"a", api.MaxInt + 1, 5, []api.Tx{b1, aa2, b3, at}},
		{"a", math.MaxInt64, 5, []api.Tx{b1, aa2, b3, at}},
		{"b", 1, 1, []api.Tx{a5, a2, aa2, a3, b3, a2x, at, a9}},
		{"b", 3, 2, []api.Tx{a5, a2, aa2, a3, a2x, at, a9}},
		{"aa", 2, 1, []api.Tx{a5, b1, a2, a3, b3, a2x, at, a9}},
		// Somebody who has nothing there, one who is named as To or Key alone, and what is no name.
		{"d", math.MaxInt64, 0, l}, {"z", math.MaxInt64, 0, l}, {"k", math.MaxInt64, 0, l}, {"aaa", 9, 0, l}, {"á", 9, 0, l},
		{"", math.MaxInt64, 0, l}, {"A", math.MaxInt64, 0, l}, {" a", 9, 0, l}, {"a ", 9, 0, l}, {"a\x00", 9, 0, l}, {"\xff", 9, 0, l}, {strings.Repeat("a", 70000), 9, 0, l},
	} {
		p := filled(t, len(l), l...)
		passes(t, p, c.count, c.who, c.nonce)
		waits(t, p, c.left...)
		// Again: they don't wait any more.
		passes(t, p, 0, c.who, c.nonce)
		waits(t, p, c.left...)
	}
	p := empty(t, 3)
	passes(t, p, 0, "a", 1)
	waits(t, p)
}

// TestP10_2_PastInTurn: nonce by nonce, as they are done, till none is left.
func TestP10_2_PastInTurn(t *testing.T) {
	var l []api.Tx
	for nonce := range int64(20) {
		l = append(l, move("a", 20-nonce, 1), put("b", nonce+1, "k", "v"), move("a", 20-nonce, 2))
	}
	p := filled(t, 60, l...)
	for nonce := int64(1); nonce <= 20; nonce++ {
		passes(t, p, 2, "a", nonce)
		l = slices.DeleteFunc(l, func(x api.Tx) bool { return x.From == "a" && x.Nonce == nonce })
		waits(t, p, l...)
	}
	passes(t, p, 20, "b", 20)
	waits(t, p)
}

// TestP10_2_AddBehindPast: what is past may come again, as the last one; there is room again.
func TestP10_2_AddBehindPast(t *testing.T) {
	a1, b1, a2, c1 := move("a", 1, 1), move("b", 1, 1), move("a", 2, 1), put("c", 1, "k", "v")
	p := filled(t, 3, a1, b1, a2)
	refuses(t, p, c1, api.ErrFull)
	passes(t, p, 1, "a", 1)
	waits(t, p, b1, a2)
	adds(t, p, a1)
	waits(t, p, b1, a2, a1)
	refuses(t, p, c1, api.ErrFull)
	refuses(t, p, a1, api.ErrThere)
	batch(t, p, 2, nil, b1, a2)
	passes(t, p, 2, "a", 7)
	adds(t, p, c1, a2)
	waits(t, p, b1, c1, a2)
	refuses(t, p, a1, api.ErrFull)
	passes(t, p, 1, "b", 1)
	passes(t, p, 1, "c", 1)
	passes(t, p, 1, "a", 2)
	adds(t, p, a2, b1, a1)
	waits(t, p, a2, b1, a1)
	refuses(t, p, c1, api.ErrFull)
}

func TestP10_2_AllAndLenAsTheyCame(t *testing.T) {
	l := numbered(api.MaxPool)
	slices.Reverse(l)
	p := empty(t, api.MaxPool)
	for n, x := range l {
		adds(t, p, x)
		waits(t, p, l[:n+1]...)
		waits(t, p, l[:n+1]...)
	}
}

func TestP10_2_Nil(t *testing.T) {
	var p *pool.Pool
	l := numbered(3)
	for _, x := range slices.Concat(l, wrongs()) {
		refuses(t, p, x, api.ErrNil)
	}
	for _, n := range []int{math.MinInt, -1, 0, 1, 5, math.MaxInt} {
		batch(t, p, n, nil)
		batch(t, p, n, l)
	}
	drops(t, p, 0)
	drops(t, p, 0, l...)
	passes(t, p, 0, "a", 1)
	passes(t, p, 0, "", math.MaxInt64)
	waits(t, p)
}

// dice: numbers that look drawn, the same each time.
type dice struct{ seed uint64 }

// below: a number from 0 to n less 1.
func (d *dice) below(n int) int {
	d.seed = d.seed*6364136223846793005 + 1442695040888963407
	return int(d.seed >> 33 % uint64(n))
}

// model: a second reckoning, which has the time at which each one that waits came.
type model struct {
	most, time int
	came       map[api.Tx]int
}

// modelOf: of a pool in which none wait.
func modelOf(most int) *model { return &model{most: most, came: map[api.Tx]int{}} }

// add: what is expected of it.
func (m *model) add(x api.Tx) api.Errno {
	switch {
	case tx.Check(x) != api.OK:
		return api.ErrTx
	case m.came[x] > 0:
		return api.ErrThere
	case len(m.came) == m.most:
		return api.ErrFull
	}
	m.time++
	m.came[x] = m.time
	return api.OK
}

// inOrder: some that wait, by their times.
func (m *model) inOrder(l []api.Tx) []api.Tx {
	slices.SortFunc(l, func(a, b api.Tx) int { return cmp.Compare(m.came[a], m.came[b]) })
	return l
}

// all: those that wait.
func (m *model) all() []api.Tx { return m.inOrder(slices.Collect(maps.Keys(m.came))) }

// batch: of each From and Nonce the one that came first, and of these the ones that came first.
func (m *model) batch(n int, without []api.Tx) []api.Tx {
	first := map[string]api.Tx{}
	for x, time := range m.came {
		turn := fmt.Sprintf("%s %d", x.From, x.Nonce)
		y, there := first[turn]
		if !slices.Contains(without, x) && (!there || time < m.came[y]) {
			first[turn] = x
		}
	}
	l := m.inOrder(slices.Collect(maps.Values(first)))
	return l[:min(max(n, 0), len(l))]
}

// drop: how many of these waited.
func (m *model) drop(l []api.Tx) int {
	before := len(m.came)
	for _, x := range l {
		delete(m.came, x)
	}
	return before - len(m.came)
}

// past: those that are.
func (m *model) past(who string, nonce int64) int {
	return m.drop(slices.DeleteFunc(m.all(), func(x api.Tx) bool { return x.From != who || x.Nonce > nonce }))
}

// drawn: a transaction; most are right, and many are alike.
func (d *dice) drawn() api.Tx {
	from, nonce := []string{"a", "aa", "b", "é"}[d.below(4)], int64(d.below(6)+1)
	x := move(from, nonce, int64(d.below(2)+1))
	if d.below(2) == 0 {
		x = put(from, nonce, "k", []string{"", "v"}[d.below(2)])
	}
	if d.below(30) == 0 {
		x = wrongs()[d.below(len(wrongs()))]
	}
	return x
}

// list: some of those that wait and some others, some of them twice.
func (d *dice) list(all []api.Tx) []api.Tx {
	var l []api.Tx
	for range d.below(5) {
		l = append(l, d.drawn())
	}
	for _, x := range all {
		if d.below(4) == 0 {
			l = append(l, x)
		}
	}
	if len(l) > 0 && d.below(2) == 0 {
		l = append(l, l[d.below(len(l))])
	}
	return l
}

// step: one call of a pool, held against the second reckoning of it; the number of the call, and what was told.
func (d *dice) step(t *testing.T, p *pool.Pool, m *model) (int, int) {
	t.Helper()
	switch call := d.below(20); call {
	case 0:
		l := d.list(m.all())
		if d.below(3) == 0 {
			l = append(l, m.all()...)
		}
		n := m.drop(l)
		drops(t, p, n, l...)
		return 1, n
	case 1:
		x := d.drawn()
		n := m.past(x.From, x.Nonce)
		passes(t, p, n, x.From, x.Nonce)
		return 2, n
	case 2, 3, 4:
		n, l := d.below(12)-1, d.list(m.all())
		want := m.batch(n, l)
		some(t, p, n, l)
		batch(t, p, n, l, want...)
		return 3, len(want)
	default:
		x := d.drawn()
		got, want := p.Add(x), m.add(x)
		if got != want {
			t.Errorf("Add(%s): error %d, not %d", shown(x), got, want)
		}
		return 0, int(got)
	}
}

// TestP10_ByASecondReckoning: a long row of calls.
func TestP10_ByASecondReckoning(t *testing.T) {
	for _, most := range []int{1, 2, 3, 8, 20, api.MaxPool} {
		d, p, m := &dice{uint64(most)}, empty(t, most), modelOf(most)
		told, sizes := map[[2]int]int{}, map[int]int{}
		for range 4000 {
			call, n := d.step(t, p, m)
			told[[2]int{call, n}]++
			waits(t, p, m.all()...)
			sizes[p.Len()]++
			if p.Len() > most {
				t.Errorf("%d wait, of %d", p.Len(), most)
			}
			if t.Failed() {
				t.FailNow()
			}
		}
		// All answers came, and a small pool was often empty, and often full.
		for _, e := range []api.Errno{api.OK, api.ErrTx, api.ErrThere} {
			if told[[2]int{0, int(e)}] < 20 {
				t.Errorf("most %d: Add's answer %d came %d times", most, e, told[[2]int{0, int(e)}])
			}
		}
		for call := 1; call <= 3; call++ {
			if told[[2]int{call, 0}] < 10 || told[[2]int{call, 1}] < 10 {
				t.Errorf("most %d: call %d told 0 %d times, 1 %d times", most, call, told[[2]int{call, 0}], told[[2]int{call, 1}])
			}
		}
		if most <= 8 && (sizes[0] < 20 || sizes[most] < 20 || told[[2]int{0, int(api.ErrFull)}] < 20) {
			t.Errorf("most %d: empty %d times, full %d times", most, sizes[0], sizes[most])
		}
	}
}

// TestP10_3_NeverMoreThanMayBe: whatever is added, again and again.
func TestP10_3_NeverMoreThanMayBe(t *testing.T) {
	l := numbered(500)
	for _, most := range []int{1, 2, 5, 63, api.MaxPool} {
		p := empty(t, most)
		for n, x := range slices.Concat(l, l) {
			p.Add(x)
			p.Add(wrongs()[n%len(wrongs())])
			if p.Len() != min(n+1, most) {
				t.Fatalf("%d wait, of %d, behind %d", p.Len(), most, n+1)
			}
		}
		waits(t, p, l[:most]...)
		// Nor once some went.
		drops(t, p, 1, l[most-1])
		for _, x := range l[most:] {
			p.Add(x)
		}
		waits(t, p, slices.Concat(l[:most-1], l[most:most+1])...)
		batch(t, p, 1000, nil, p.All()...)
	}
}

// lent: a text whose bytes are changed later, all of them, by a call of what is told beside it.
func lent(s string) (string, func()) {
	b := []byte(s)
	return unsafe.String(unsafe.SliceData(b), len(b)), func() {
		for n := range b {
			b[n] = '!'
		}
	}
}

// lentTx: a transaction all of whose texts are lent.
func lentTx(x api.Tx) (api.Tx, func()) {
	var turns [4]func()
	x.From, turns[0] = lent(x.From)
	x.To, turns[1] = lent(x.To)
	x.Key, turns[2] = lent(x.Key)
	x.Val, turns[3] = lent(x.Val)
	return x, func() {
		for _, turn := range turns {
			turn()
		}
	}
}

// TestR4_NoTextOfOthersIsKept: neither of what is added, nor of what is left out, dropped, or past.
func TestR4_NoTextOfOthersIsKept(t *testing.T) {
	l := []api.Tx{move("alice", 1, 1), put("bob", 1, "key", "value"), move("carol", 1, 1)}
	p := empty(t, 3)
	for _, x := range l {
		y, turn := lentTx(x)
		adds(t, p, y)
		turn()
	}
	waits(t, p, l...)
	batch(t, p, 3, nil, l...)
	y, turn := lentTx(l[1])
	told := p.Batch(3, []api.Tx{y})
	turn()
	if want := []api.Tx{l[0], l[2]}; !slices.Equal(told, want) {
		t.Errorf("Batch: %s, not %s", shown(told...), shown(want...))
	}
	y, turn = lentTx(l[0])
	drops(t, p, 1, y)
	turn()
	who, turn := lent("carol")
	passes(t, p, 1, who, 1)
	turn()
	waits(t, p, l[1])
}

// TestR4_ListsStay: those that are handed in stay as they are, also what lies behind their ends; what is done with them later
// isn't seen.
func TestR4_ListsStay(t *testing.T) {
	l := numbered(6)
	p := filled(t, 6, l...)
	given := []api.Tx{l[3], l[1], numbered(9)[8], l[3], {}, l[0], l[5]}
	before := slices.Clone(given)
	told := p.Batch(9, given[:5])
	p.Drop(given[:5])
	if !slices.Equal(given, before) {
		t.Errorf("the list is %s, not %s", shown(given...), shown(before...))
	}
	clear(given)
	if want := []api.Tx{l[0], l[2], l[4], l[5]}; !slices.Equal(told, want) {
		t.Errorf("Batch: %s, not %s", shown(told...), shown(want...))
	}
	waits(t, p, l[0], l[2], l[4], l[5])
}

// TestR4_WhatIsToldIsTheCallers: a batch and an All that are changed, or that grow, change nothing else.
func TestR4_WhatIsToldIsTheCallers(t *testing.T) {
	l := numbered(5)
	p := filled(t, 9, l...)
	all, more := p.All(), p.All()
	some, others := p.Batch(5, nil), p.Batch(3, l[:1])
	for _, told := range [][]api.Tx{all, some} {
		_ = append(told, move("x", 1, 1))
		for n := range told {
			told[n] = move("y", int64(n+1), 1)
		}
	}
	waits(t, p, l...)
	batch(t, p, 5, nil, l...)
	if !slices.Equal(more, l) || !slices.Equal(others, l[1:4]) {
		t.Errorf("All: %s; Batch: %s", shown(more...), shown(others...))
	}
	// Nor is what was told changed by what comes behind it.
	drops(t, p, 2, l[0], l[2])
	adds(t, p, move("x", 1, 1), move("x", 2, 1), move("x", 3, 1))
	passes(t, p, 1, l[1].From, l[1].Nonce)
	if !slices.Equal(more, l) || !slices.Equal(others, l[1:4]) {
		t.Errorf("All: %s; Batch: %s", shown(more...), shown(others...))
	}
}

// TestR4_TextsAreTheCallers: texts that are told lie neither in one another nor in what was handed in.
func TestR4_TextsAreTheCallers(t *testing.T) {
	l := []api.Tx{move("alice", 1, 1), put("bob", 1, "key", "value")}
	p := filled(t, 2, l...)
	places := map[*byte]int{}
	for _, told := range [][]api.Tx{l, p.All(), p.All(), p.Batch(2, nil), p.Batch(2, nil)} {
		for _, x := range told {
			for _, s := range []string{x.From, x.To, x.Key, x.Val} {
				if s != "" {
					places[unsafe.StringData(s)]++
				}
			}
		}
	}
	if len(places) != 25 {
		t.Errorf("25 texts lie in %d places", len(places))
	}
}

// TestR4_WhoHoldsIt: a pool is an object: who holds it sees what is done with it.
func TestR4_WhoHoldsIt(t *testing.T) {
	l := numbered(2)
	a := empty(t, 2)
	b := a
	adds(t, a, l[0])
	adds(t, b, l[1])
	refuses(t, a, l[1], api.ErrThere)
	waits(t, a, l...)
	drops(t, b, 1, l[0])
	waits(t, a, l[1])
}

func TestR6_NothingIsKeptBetweenPools(t *testing.T) {
	l := numbered(4)
	for range 3 {
		p := filled(t, 2, l[0], l[1])
		other := filled(t, 3, l[1], l[2])
		drops(t, p, 1, l[1])
		passes(t, p, 1, l[0].From, l[0].Nonce)
		waits(t, other, l[1], l[2])
		adds(t, other, l[3])
		refuses(t, other, l[0], api.ErrFull)
		waits(t, p)
	}
}
