package state_test

import (
	"fmt"
	"math"
	"slices"
	"strings"
	"testing"
	"unsafe"

	"hallmoot/api"
	"hallmoot/state"
	"hallmoot/tx"
)

// of: an account.
func of(who string, amount int64) api.Account { return api.Account{Name: who, Amount: amount} }

// move: a transaction.
func move(nonce int64, from string, amount int64, to string) api.Tx {
	return api.Tx{Kind: api.TxMove, From: from, To: to, Amount: amount, Nonce: nonce}
}

// put: a transaction.
func put(nonce int64, from, key, val string) api.Tx {
	return api.Tx{Kind: api.TxPut, From: from, Key: key, Val: val, Nonce: nonce}
}

// names: some that are names, each ahead of the next one by their runes. By how many bytes they have, by their great
// letters, or by their letters without marks, they would stand otherwise.
func names() []string {
	return []string{"_", "_9", "__", "_a", "a", "a-", "a-z", "a0", "a9", "a_", "aa", "aaa", strings.Repeat("a", 32), "ab", "az", "aß", "aé", "aω",
		"b", "ba", "bob", "z", "z_", "zz", strings.Repeat("z", 32), "zé", "ß", "ßa", "à", "àz", "é", "é-", "éa", strings.Repeat("é", 32), "ö", "øa", "ÿ", "ÿ_",
		"α", "αω", "ρ", "ς", "σ", "ω", "ωω", strings.Repeat("ω", 32)}
}

// noNames: some that aren't.
func noNames() []string {
	return []string{"", "A", "Alice", "alicE", "É", "aÉ", "Ω", "9", "9a", "-", "-a", " ", "a b", " a", "a ", "a\t", "a\n", "\x00", "a:", "÷", "×", "д",
		"\ufffd", "\xff", "a\xff", "\xc3", "\xed\xa0\x80", strings.Repeat("a", 33), strings.Repeat("é", 33), strings.Repeat("a", 32) + "\xff", strings.Repeat("a", 70000)}
}

// anyTexts: texts that somebody may ask for.
func anyTexts() []string { return slices.Concat(names(), noNames(), []string{"k", "carol"}) }

// made: a state of these accounts.
func made(t *testing.T, l ...api.Account) *state.State {
	t.Helper()
	s, e := state.New(l)
	if s == nil || e != api.OK {
		t.Fatalf("New(%.300v): error %d", l, e)
	}
	return s
}

// unmade: is this error told of these accounts, and nil beside it?
func unmade(t *testing.T, want api.Errno, l ...api.Account) {
	t.Helper()
	if s, e := state.New(l); s != nil || e != want {
		t.Errorf("New(%.300q): %v, error %d, not error %d", fmt.Sprint(l), s != nil, e, want)
	}
}

// answers: all that a state tells of some names and keys, and its digest and total.
func answers(s *state.State, whos, keys []string) string {
	var b strings.Builder
	fmt.Fprintf(&b, "%q %d\n", s.Digest(), s.Total())
	for _, who := range whos {
		fmt.Fprintf(&b, "%q %d %d\n", who, s.Amount(who), s.Nonce(who))
		for _, key := range keys {
			fmt.Fprintf(&b, "%q %q %q\n", who, key, s.Value(who, key))
		}
	}
	return b.String()
}

// does: is a transaction done?
func does(t *testing.T, s *state.State, l ...api.Tx) {
	t.Helper()
	for _, x := range l {
		if e := s.Do(x); e != api.OK {
			t.Fatalf("Do(%+v): %d", x, e)
		}
	}
}

// refuses: is this error told of a transaction, and is nothing changed?
func refuses(t *testing.T, s *state.State, x api.Tx, want api.Errno) {
	t.Helper()
	whos, keys := []string{x.From, x.To, "alice", "bob", "carol"}, []string{x.Key, "k"}
	before := answers(s, whos, keys)
	for range 2 {
		if e := s.Do(x); e != want {
			t.Errorf("Do(%.300q): %d, not %d", fmt.Sprintf("%+v", x), e, want)
		}
	}
	if now := answers(s, whos, keys); now != before {
		t.Errorf("Do(%.300q) with error %d: %s, not %s", fmt.Sprintf("%+v", x), want, now, before)
	}
}

// has: does a name have this?
func has(t *testing.T, s *state.State, who string, amount, nonce int64) {
	t.Helper()
	if a, n := s.Amount(who), s.Nonce(who); a != amount || n != nonce {
		t.Errorf("%.40q has %d, nonce %d, not %d, %d", who, a, n, amount, nonce)
	}
}

// holds: does a key have this value?
func holds(t *testing.T, s *state.State, who, key, want string) {
	t.Helper()
	if val := s.Value(who, key); val != want {
		t.Errorf("Value(%.40q, %.40q): %q, not %q", who, key, val, want)
	}
}

// digest: is it this?
func digest(t *testing.T, s *state.State, want string) {
	t.Helper()
	if d := s.Digest(); d != want {
		t.Errorf("Digest: %q, not %q", d, want)
	}
}

// total: is it this?
func total(t *testing.T, s *state.State, want int64) {
	t.Helper()
	if n := s.Total(); n != want {
		t.Errorf("Total: %d, not %d", n, want)
	}
}

// like: do two states answer the same?
func like(t *testing.T, a, b *state.State, whos, keys []string) {
	t.Helper()
	if x, y := answers(a, whos, keys), answers(b, whos, keys); x != y {
		t.Errorf("unlike: %s and %s", x, y)
	}
}

func TestP9_1_NewOfNoAccounts(t *testing.T) {
	for _, l := range [][]api.Account{nil, {}} {
		s := made(t, l...)
		digest(t, s, "")
		total(t, s, 0)
		for _, who := range anyTexts() {
			has(t, s, who, 0, 0)
			holds(t, s, who, "k", "")
			holds(t, s, "a", who, "")
		}
		// It does what may be done all the same.
		refuses(t, s, move(1, "a", 1, "b"), api.ErrFunds)
		does(t, s, put(1, "a", "k", "v"))
		digest(t, s, "a 0 1\na\tk\tv\n")
	}
}

func TestP9_1_New(t *testing.T) {
	s := made(t, of("bob", 7), of("alice", 5), of("carol", 0), of("élan", 1))
	for who, amount := range map[string]int64{"bob": 7, "alice": 5, "carol": 0, "élan": 1, "dave": 0, "Bob": 0, "": 0} {
		has(t, s, who, amount, 0)
		holds(t, s, who, "k", "")
	}
	total(t, s, 13)
	digest(t, s, "alice 5 0\nbob 7 0\nélan 1 0\n")
}

func TestP9_1_NewOfNames(t *testing.T) {
	for _, who := range names() {
		s := made(t, of(who, 3))
		has(t, s, who, 3, 0)
		digest(t, s, who+" 3 0\n")
		made(t, of("x", 1), of(who, 0), of("y", 1))
	}
	for _, who := range noNames() {
		for _, amount := range []int64{0, 1, api.MaxInt, -1, api.MaxInt + 1} {
			unmade(t, api.ErrArg, of(who, amount))
			unmade(t, api.ErrArg, of("x", 1), of(who, amount))
			unmade(t, api.ErrArg, of(who, amount), of("x", 1))
		}
	}
}

func TestP9_1_NewOfAmounts(t *testing.T) {
	for _, amount := range []int64{0, 1, 2, 9, 10, 1 << 31, 1 << 32, api.MaxInt - 1, api.MaxInt} {
		s := made(t, of("a", amount))
		has(t, s, "a", amount, 0)
		total(t, s, amount)
	}
	for _, amount := range []int64{-1, -2, -1 << 32, -api.MaxInt, -api.MaxInt - 1, math.MinInt64, math.MinInt64 + 1} {
		unmade(t, api.ErrArg, of("a", amount))
		unmade(t, api.ErrArg, of("b", 5), of("a", amount))
		unmade(t, api.ErrArg, of("b", api.MaxInt), of("a", amount))
	}
	for _, amount := range []int64{api.MaxInt + 1, api.MaxInt + 2, math.MaxInt64 - 1, math.MaxInt64} {
		unmade(t, api.ErrOver, of("a", amount))
		unmade(t, api.ErrOver, of("b", 5), of("a", amount))
		unmade(t, api.ErrOver, of("a", amount), of("b", 0))
	}
}

func TestP9_1_NewOfOneNameTwice(t *testing.T) {
	for _, who := range names() {
		for _, amounts := range [][2]int64{{0, 0}, {0, 1}, {1, 0}, {1, 1}, {5, 7}, {0, api.MaxInt}, {api.MaxInt, 0}} {
			a, b := of(who, amounts[0]), of(who, amounts[1])
			unmade(t, api.ErrThere, a, b)
			unmade(t, api.ErrThere, of("x", 0), a, b, of("y", 0))
			unmade(t, api.ErrThere, a, of("x", 0), b)
			unmade(t, api.ErrThere, a, a, b)
		}
	}
	// Far apart.
	var l []api.Account
	for n := range 3000 {
		l = append(l, of(fmt.Sprintf("n%d", n), int64(n%2)))
	}
	made(t, l...)
	for _, n := range []int{0, 1, 1500, 2999} {
		unmade(t, api.ErrThere, append(slices.Clone(l), of(fmt.Sprintf("n%d", n), 0))...)
		unmade(t, api.ErrThere, append(slices.Clone(l), of(fmt.Sprintf("n%d", n), 1))...)
	}
}

func TestP9_1_NewOfMaxIntTogether(t *testing.T) {
	const most = int64(api.MaxInt)
	for _, l := range [][]int64{{most}, {most, 0}, {0, most}, {most - 1, 1}, {1, most - 1}, {most / 2, most / 2}, {most / 4, most / 4, most / 4, most/4 - 1, 0, 1}} {
		var all []api.Account
		for n, amount := range l {
			all = append(all, of(fmt.Sprintf("n%d", n), amount))
		}
		total(t, made(t, all...), most)
		// One more: behind them, ahead of them, and in each one's place.
		unmade(t, api.ErrOver, append(slices.Clone(all), of("more", 1))...)
		unmade(t, api.ErrOver, append([]api.Account{of("more", 1)}, all...)...)
		unmade(t, api.ErrOver, append(slices.Clone(all), of("more", most))...)
		unmade(t, api.ErrOver, append(slices.Clone(all), of("more", math.MaxInt64))...)
		for n := range all {
			over := slices.Clone(all)
			over[n].Amount++
			unmade(t, api.ErrOver, over...)
		}
	}
}

func TestP9_1_NewTellsTheFirstError(t *testing.T) {
	over := of("o", api.MaxInt+1)
	for _, c := range []struct {
		want api.Errno
		l    []api.Account
	}{
		// In one account: no name, or below 0, ahead of a name that was there, ahead of too much.
		{api.ErrArg, []api.Account{of("A", -1)}},
		{api.ErrArg, []api.Account{of("A", math.MaxInt64)}},
		{api.ErrArg, []api.Account{of("a", 1), of("a", -1)}},
		{api.ErrArg, []api.Account{of("a", api.MaxInt), of("A", 1)}},
		{api.ErrThere, []api.Account{of("a", 1), of("a", api.MaxInt)}},
		{api.ErrThere, []api.Account{of("a", api.MaxInt), of("a", 1)}},
		{api.ErrThere, []api.Account{of("a", 1), of("a", math.MaxInt64)}},
		// In two: the first account's, whichever it is.
		{api.ErrArg, []api.Account{of("A", 1), over}},
		{api.ErrArg, []api.Account{of("a", 1), of("b", -1), of("a", 1)}},
		{api.ErrArg, []api.Account{of("a", 1), of("", 1), over}},
		{api.ErrOver, []api.Account{over, of("A", 1)}},
		{api.ErrOver, []api.Account{over, of("a", -1)}},
		{api.ErrOver, []api.Account{over, over}},
		{api.ErrOver, []api.Account{of("a", 1), of("b", api.MaxInt), of("a", 1)}},
		{api.ErrOver, []api.Account{of("a", api.MaxInt), of("b", 1), of("b", -1)}},
		{api.ErrThere, []api.Account{of("a", 1), of("a", 1), of("A", 1)}},
		{api.ErrThere, []api.Account{of("a", 1), of("a", 1), of("b", -1)}},
		{api.ErrThere, []api.Account{of("a", 1), of("a", 1), over}},
		{api.ErrThere, []api.Account{of("a", 0), of("a", 0), of("b", api.MaxInt), of("c", 1)}},
	} {
		unmade(t, c.want, c.l...)
	}
}

func TestP9_1_Examples(t *testing.T) {
	s := made(t, of("alice", 5))
	does(t, s, move(1, "alice", 3, "bob"))
	has(t, s, "alice", 2, 1)
	has(t, s, "bob", 3, 0)
	refuses(t, s, move(1, "alice", 3, "bob"), api.ErrNonce)
	has(t, s, "alice", 2, 1)
	has(t, s, "bob", 3, 0)
	digest(t, s, "alice 2 1\nbob 3 0\n")
}

func TestP9_1_MoveOfAllThereIs(t *testing.T) {
	for _, amount := range []int64{1, 2, 5, 1 << 40, api.MaxInt - 1, api.MaxInt} {
		s := made(t, of("alice", amount))
		// One more; beyond MaxInt that is no transaction any more.
		want := api.ErrFunds
		if amount == api.MaxInt {
			want = api.ErrTx
		}
		refuses(t, s, move(1, "alice", amount+1, "bob"), want)
		does(t, s, move(1, "alice", amount, "bob"))
		has(t, s, "alice", 0, 1)
		has(t, s, "bob", amount, 0)
		digest(t, s, fmt.Sprintf("alice 0 1\nbob %d 0\n", amount))
		// Whoever has nothing any more gives nothing; whoever has it gives it back.
		refuses(t, s, move(2, "alice", 1, "bob"), api.ErrFunds)
		does(t, s, move(1, "bob", amount, "alice"))
		has(t, s, "alice", amount, 1)
		has(t, s, "bob", 0, 1)
		total(t, s, amount)
	}
}

func TestP9_1_MoveToOneWhoIsThere(t *testing.T) {
	s := made(t, of("alice", api.MaxInt-7), of("bob", 7))
	does(t, s, move(1, "alice", 1, "bob"), move(2, "alice", api.MaxInt-8, "bob"))
	has(t, s, "alice", 0, 2)
	has(t, s, "bob", api.MaxInt, 0)
	does(t, s, move(1, "bob", api.MaxInt-1, "alice"))
	has(t, s, "alice", api.MaxInt-1, 2)
	has(t, s, "bob", 1, 1)
	total(t, s, api.MaxInt)
	digest(t, s, "alice 4611686018427387903 2\nbob 1 1\n")
}

func TestP9_1_MoveToOneWhoIsNotThereYet(t *testing.T) {
	for _, who := range names() {
		s := made(t, of("alice", 5), of("zero", 0))
		does(t, s, move(1, "alice", 2, who), move(2, "alice", 1, who))
		has(t, s, "alice", 2, 2)
		has(t, s, who, 3, 0)
		does(t, s, move(3, "alice", 2, "zero"))
		has(t, s, "zero", 2, 0)
		// Who got something gives it on; its own nonce begins at 1.
		refuses(t, s, move(2, who, 3, "alice"), api.ErrNonce)
		refuses(t, s, move(1, who, 4, "alice"), api.ErrFunds)
		does(t, s, move(1, who, 3, "dave"))
		has(t, s, who, 0, 1)
		has(t, s, "dave", 3, 0)
		total(t, s, 5)
	}
}

func TestP9_1_MoveToOneself(t *testing.T) {
	for _, amount := range []int64{1, 5, api.MaxInt} {
		s := made(t, of("alice", amount))
		does(t, s, move(1, "alice", amount, "alice"), move(2, "alice", 1, "alice"))
		has(t, s, "alice", amount, 2)
		total(t, s, amount)
		digest(t, s, fmt.Sprintf("alice %d 2\n", amount))
		refuses(t, s, move(2, "alice", 1, "alice"), api.ErrNonce)
	}
	// What somebody doesn't have isn't given to oneself either.
	s := made(t, of("alice", 5), of("zero", 0), of("rich", 100))
	refuses(t, s, move(1, "alice", 6, "alice"), api.ErrFunds)
	refuses(t, s, move(1, "zero", 1, "zero"), api.ErrFunds)
	refuses(t, s, move(1, "nobody", 1, "nobody"), api.ErrFunds)
}

func TestP9_1_MoveByOneWhoHasNothing(t *testing.T) {
	s := made(t, of("alice", 5), of("zero", 0))
	does(t, s, put(1, "carol", "k", "v"))
	for _, amount := range []int64{1, 2, 5, api.MaxInt} {
		// One who was never there, one who had 0 at first, and one who did something.
		refuses(t, s, move(1, "nobody", amount, "alice"), api.ErrFunds)
		refuses(t, s, move(1, "zero", amount, "alice"), api.ErrFunds)
		refuses(t, s, move(2, "carol", amount, "alice"), api.ErrFunds)
	}
	digest(t, s, "alice 5 0\ncarol 0 1\ncarol\tk\tv\n")
}

func TestP9_1_Put(t *testing.T) {
	s := made(t, of("alice", 5))
	does(t, s, put(1, "alice", "k", "v"))
	holds(t, s, "alice", "k", "v")
	has(t, s, "alice", 5, 1)
	// One that is there; the same value again; an empty one onto it, and again; a new one.
	for n, val := range []string{"w", "w", "", "", "x y ", strings.Repeat("é", 32), " "} {
		does(t, s, put(int64(n+2), "alice", "k", val))
		holds(t, s, "alice", "k", val)
		has(t, s, "alice", 5, int64(n+2))
	}
	does(t, s, put(9, "alice", "l", "other"))
	holds(t, s, "alice", "k", " ")
	holds(t, s, "alice", "l", "other")
	holds(t, s, "alice", "m", "")
	total(t, s, 5)
	digest(t, s, "alice 5 9\nalice\tk\t \nalice\tl\tother\n")
}

func TestP9_1_PutByOneWhoHasNoAccount(t *testing.T) {
	for _, who := range names() {
		s := made(t, of("alice", 5))
		does(t, s, put(1, who, "k", "v"))
		holds(t, s, who, "k", "v")
		holds(t, s, "alice", "k", "")
		has(t, s, who, 0, 1)
		has(t, s, "alice", 5, 0)
		total(t, s, 5)
		// An empty value where none was counts all the same.
		s = made(t)
		does(t, s, put(1, who, "k", ""))
		holds(t, s, who, "k", "")
		has(t, s, who, 0, 1)
		digest(t, s, who+" 0 1\n")
	}
}

func TestP9_1_KeysAreSomebodys(t *testing.T) {
	s := made(t)
	for n, key := range names() {
		does(t, s, put(int64(n+1), "a", key, fmt.Sprint(n)), put(int64(n+1), "aa", key, fmt.Sprint("a", n)))
	}
	for n, key := range names() {
		holds(t, s, "a", key, fmt.Sprint(n))
		holds(t, s, "aa", key, fmt.Sprint("a", n))
		holds(t, s, key+"x", key, "")
		holds(t, s, "bob", key, "")
	}
	// A name and a key aren't one text that is cut anywhere.
	s = made(t)
	does(t, s, put(1, "ab", "c", "1"), put(1, "a", "bc", "2"))
	holds(t, s, "ab", "c", "1")
	holds(t, s, "a", "bc", "2")
	holds(t, s, "abc", "", "")
	holds(t, s, "", "abc", "")
	holds(t, s, "c", "ab", "")
}

// TestP9_1_Nonces: below, at and above the one that is next, behind none, one and many.
func TestP9_1_Nonces(t *testing.T) {
	s := made(t, of("alice", 1000), of("bob", 1000))
	done := int64(0)
	for _, n := range []int64{0, 1, 2, 9, 10, 127, 128, 300} {
		for ; done < n; done++ {
			if done%2 == 0 {
				does(t, s, move(done+1, "alice", 1, "bob"))
			} else {
				does(t, s, put(done+1, "alice", "k", fmt.Sprint(done)))
			}
		}
		for _, nonce := range []int64{n - 1, n, n + 2, n + 3, 2*n + 5, 1 << 32, 1<<32 + n + 1, api.MaxInt - 1, api.MaxInt} {
			want := api.ErrNonce
			if nonce < 1 {
				want = api.ErrTx
			}
			refuses(t, s, move(nonce, "alice", 1, "bob"), want)
			refuses(t, s, put(nonce, "alice", "k", "v"), want)
		}
		// Its own alone counts: neither does what comes to it, nor what somebody else does.
		has(t, s, "alice", 1000-(n+1)/2, n)
		has(t, s, "bob", 1000+(n+1)/2, 0)
		refuses(t, s, move(n+2, "bob", 1, "alice"), api.ErrNonce)
	}
	does(t, s, move(1, "bob", 1, "alice"), move(301, "alice", 1, "bob"))
}

func TestP9_1_WhatIsNoTransaction(t *testing.T) {
	s := made(t, of("alice", 5), of("bob", 7))
	does(t, s, put(1, "alice", "k", "v"))
	wrong := []api.Tx{{}, {Kind: 1}, {Kind: 2}, {Kind: 3, From: "alice", To: "bob", Amount: 1, Nonce: 2}, {Kind: -1, From: "alice", Nonce: 2},
		{Kind: 0, From: "alice", To: "bob", Amount: 1, Nonce: 2}, {Kind: 1, From: "alice", To: "bob", Amount: 1, Nonce: 2, Key: "k"},
		{Kind: 1, From: "alice", To: "bob", Amount: 1, Nonce: 2, Val: "v"}, {Kind: 2, From: "alice", Key: "k", Nonce: 2, To: "bob"},
		{Kind: 2, From: "alice", Key: "k", Nonce: 2, Amount: 1}, {Kind: 2, From: "alice", Key: "k", Nonce: 2, Amount: -1}}
	for _, who := range noNames() {
		wrong = append(wrong, move(2, who, 1, "bob"), move(1, who, 1, "bob"), move(2, "alice", 1, who), put(1, who, "k", "v"), put(2, "alice", who, "v"))
	}
	for _, n := range []int64{0, -1, -5, -api.MaxInt, math.MinInt64, api.MaxInt + 1, math.MaxInt64} {
		wrong = append(wrong, move(2, "alice", n, "bob"), move(n, "alice", 1, "bob"), put(n, "alice", "k", "w"), put(n, "nobody", "k", "w"))
	}
	for _, val := range []string{"\n", "\t", "a\x00", "\x7f", "\xff", strings.Repeat("v", 33)} {
		wrong = append(wrong, put(2, "alice", "k", val))
	}
	for _, x := range wrong {
		if e := tx.Check(x); e != api.ErrTx {
			t.Errorf("%.200q is right", fmt.Sprintf("%+v", x))
		}
		refuses(t, s, x, api.ErrTx)
		// Ahead of another nonce, and of too little.
		x.Nonce += 7
		if tx.Check(x) == api.ErrTx {
			refuses(t, s, x, api.ErrTx)
		}
	}
	digest(t, s, "alice 5 1\nbob 7 0\nalice\tk\tv\n")
	total(t, s, 12)
}

func TestP9_1_DoTellsTheFirstError(t *testing.T) {
	s := made(t, of("alice", 5))
	does(t, s, move(1, "alice", 1, "bob"))
	// No transaction, whatever its nonce and its amount are.
	refuses(t, s, move(9, "alice", 100, "Bob"), api.ErrTx)
	refuses(t, s, move(1, "alice", 100, "Bob"), api.ErrTx)
	refuses(t, s, move(2, "alice", 100, "Bob"), api.ErrTx)
	refuses(t, s, put(9, "alice", "K", "v"), api.ErrTx)
	// Another nonce, whatever the amount is.
	for _, nonce := range []int64{1, 3, 4, api.MaxInt} {
		for _, amount := range []int64{1, 4, 5, 100, api.MaxInt} {
			refuses(t, s, move(nonce, "alice", amount, "bob"), api.ErrNonce)
			refuses(t, s, move(max(nonce, 2), "nobody", amount, "bob"), api.ErrNonce)
		}
	}
	refuses(t, s, move(2, "alice", 5, "bob"), api.ErrFunds)
	does(t, s, move(2, "alice", 4, "bob"))
}

func TestP9_2_DigestExamples(t *testing.T) {
	s := made(t, of("bob", 7), of("alice", 5))
	digest(t, s, "alice 5 0\nbob 7 0\n")
	does(t, s, put(1, "carol", "k", "a b"), move(1, "alice", 5, "bob"), put(2, "alice", "é", "=é="))
	digest(t, s, "alice 0 2\nbob 12 0\ncarol 0 1\nalice\té\t=é=\ncarol\tk\ta b\n")
	// A value may look like lines of other ones, but has no byte of theirs.
	does(t, s, put(3, "alice", "k", "bob 12 0"), put(2, "carol", "a", " "))
	digest(t, s, "alice 0 3\nbob 12 0\ncarol 0 2\nalice\tk\tbob 12 0\nalice\té\t=é=\ncarol\ta\t \ncarol\tk\ta b\n")
}

// TestP9_2_DigestsOfNothing: amounts of 0 without a nonce, and values that are "", don't stand in it.
func TestP9_2_DigestsOfNothing(t *testing.T) {
	s := made(t, of("b", 0), of("a", 0), of("c", 1), of("d", 0))
	digest(t, s, "c 1 0\n")
	does(t, s, put(1, "b", "k", ""), move(1, "c", 1, "d"))
	digest(t, s, "b 0 1\nc 0 1\nd 1 0\n")
	does(t, s, put(2, "b", "k", "v"), put(3, "b", "l", "w"), put(4, "b", "k", ""))
	digest(t, s, "b 0 4\nc 0 1\nd 1 0\nb\tl\tw\n")
	does(t, s, put(5, "b", "l", ""), move(1, "d", 1, "c"))
	digest(t, s, "b 0 5\nc 1 1\nd 0 1\n")
	digest(t, made(t, of("a", 0)), "")
}

// mixed: the items in another order, the same each time.
func mixed[T any](l []T, by uint64) []T {
	l, d := slices.Clone(l), &dice{by}
	for n := len(l) - 1; n > 0; n-- {
		k := d.below(n + 1)
		l[n], l[k] = l[k], l[n]
	}
	return l
}

// TestP9_2_DigestsInTheOrderOfRunes: of many names, of many keys of one name, and of one key of many names.
func TestP9_2_DigestsInTheOrderOfRunes(t *testing.T) {
	amounts, keys, whos := "", "", ""
	for n, who := range names() {
		amounts += fmt.Sprintf("%s %d 0\n", who, n+1)
		keys += "bob\t" + who + "\t" + fmt.Sprint(n) + "\n"
		whos += who + "\tk\t" + fmt.Sprint(n) + "\n"
	}
	for by := range uint64(20) {
		var l []api.Account
		manyKeys, manyWhos := made(t), made(t)
		for n, who := range mixed(names(), by) {
			at := fmt.Sprint(slices.Index(names(), who))
			l = append(l, of(who, int64(slices.Index(names(), who)+1)))
			does(t, manyKeys, put(int64(n+1), "bob", who, at))
			does(t, manyWhos, put(1, who, "k", at))
		}
		digest(t, made(t, l...), amounts)
		digest(t, manyKeys, fmt.Sprintf("bob 0 %d\n", len(names()))+keys)
		digest(t, manyWhos, strings.Join(names(), " 0 1\n")+" 0 1\n"+whos)
	}
}

// TestP9_2_DigestsByNamesAndThenByKeys: whatever the order of both together would be.
func TestP9_2_DigestsByNamesAndThenByKeys(t *testing.T) {
	l, want := []string{"a", "a-", "a-b", "aa", "b", "ß", "é"}, ""
	for _, who := range l {
		want += who + " 0 7\n"
	}
	for _, who := range l {
		for _, key := range l {
			want += who + "\t" + key + "\t" + who + " " + key + "\n"
		}
	}
	for by := range uint64(20) {
		s := made(t)
		for _, key := range mixed(l, by) {
			for _, who := range mixed(l, by+100) {
				does(t, s, put(s.Nonce(who)+1, who, key, who+" "+key))
			}
		}
		digest(t, s, want)
	}
}

// TestP9_2_TheSameAgainAndAgain: no order in which a map is gone through is to be seen.
func TestP9_2_TheSameAgainAndAgain(t *testing.T) {
	var l []api.Account
	for n, who := range names() {
		l = append(l, of(who, int64(n)))
	}
	s := made(t, l...)
	for n, who := range names() {
		does(t, s, put(1, who, names()[(n*7+3)%len(names())], "v"), put(2, who, "k", "w"))
	}
	want, sum := s.Digest(), s.Total()
	for range 100 {
		digest(t, s, want)
		total(t, s, sum)
		digest(t, s.Copy(), want)
		total(t, s.Copy(), sum)
	}
}

func TestP9_2_AskedOfAnyText(t *testing.T) {
	s := made(t, of("alice", 5), of("élan", 6))
	does(t, s, put(1, "alice", "k", "v"), put(1, "élan", "é", "w"))
	before := s.Digest()
	for _, who := range append(anyTexts(), "Alice", "ALICE", "alice ", " alice", "alic", "alicex", "Élan", "e\u0301lan", "alice\tk", "alice 5 1\n") {
		if who != "alice" {
			has(t, s, who, 0, 0)
			holds(t, s, who, "k", "")
		}
		if who != "k" {
			holds(t, s, "alice", who, "")
		}
		holds(t, s, "alice", who+"K", "")
	}
	has(t, s, "alice", 5, 1)
	has(t, s, "élan", 6, 1)
	holds(t, s, "alice", "k", "v")
	holds(t, s, "élan", "é", "w")
	holds(t, s, "élan", "É", "")
	// Asking for somebody makes nobody.
	digest(t, s, before)
}

// TestP9_2_CopyOfWhichOneGoesOn: both ways, and of a copy's copy.
func TestP9_2_CopyOfWhichOneGoesOn(t *testing.T) {
	whos, keys := []string{"alice", "bob", "carol", "dave", "zero"}, []string{"k", "l", "m"}
	start := func() *state.State {
		s := made(t, of("alice", 5), of("bob", 7), of("zero", 0))
		does(t, s, put(1, "bob", "k", "v"), put(2, "bob", "l", "w"))
		return s
	}
	// A new name, one that is there, a new key, one that is there, one that is no more, and what was of 0.
	steps := []api.Tx{move(1, "alice", 1, "carol"), move(2, "alice", 4, "bob"), put(3, "bob", "m", "x"), put(4, "bob", "k", "y"),
		put(5, "bob", "l", ""), put(1, "dave", "k", "z"), move(6, "bob", 11, "zero"), move(1, "zero", 1, "zero")}
	all := start()
	does(t, all, steps...)
	ends := []*state.State{}
	for n := range len(steps) + 1 {
		s := start()
		does(t, s, steps[:n]...)
		before := answers(s, whos, keys)
		c := s.Copy()
		if c == s || c == nil {
			t.Fatal("Copy: the same one, or none")
		}
		like(t, s, c, whos, keys)
		// One goes on, and then the other.
		one, other := s, c
		if n%2 == 1 {
			one, other = c, s
		}
		does(t, one, steps[n:]...)
		like(t, one, all, whos, keys)
		if now := answers(other, whos, keys); now != before {
			t.Errorf("behind %d steps: %s, not %s", n, now, before)
		}
		again := other.Copy()
		does(t, other, steps[n:]...)
		like(t, other, all, whos, keys)
		if now := answers(again, whos, keys); now != before {
			t.Errorf("a copy's copy, behind %d steps: %s, not %s", n, now, before)
		}
		does(t, again, steps[n:]...)
		ends = append(ends, one, other, again)
	}
	// They went the same way, but each by itself.
	for n, s := range ends {
		does(t, s, put(s.Nonce("dave")+1, "dave", "m", fmt.Sprint(n)), move(2, "zero", 1, "alice"))
	}
	for n, s := range ends {
		holds(t, s, "dave", "m", fmt.Sprint(n))
		has(t, s, "alice", 1, 2)
		total(t, s, 12)
	}
}

func TestP9_2_CopyOfAnEmptyOne(t *testing.T) {
	s := made(t)
	c := s.Copy()
	does(t, s, put(1, "a", "k", "v"))
	does(t, c, put(1, "b", "k", "w"))
	digest(t, s, "a 0 1\na\tk\tv\n")
	digest(t, c, "b 0 1\nb\tk\tw\n")
}

// TestP9_2_CopyWhoseGoerOnIsRefused: what is refused in one changes neither.
func TestP9_2_CopyWhoseGoerOnIsRefused(t *testing.T) {
	s := made(t, of("alice", 5))
	c := s.Copy()
	for _, one := range []*state.State{s, c} {
		refuses(t, one, move(1, "alice", 6, "bob"), api.ErrFunds)
		refuses(t, one, move(2, "alice", 5, "bob"), api.ErrNonce)
		refuses(t, one, api.Tx{}, api.ErrTx)
		like(t, s, c, []string{"alice", "bob"}, nil)
	}
	digest(t, s, "alice 5 0\n")
}

func TestP9_2_Nil(t *testing.T) {
	var s *state.State
	for _, x := range []api.Tx{{}, {Kind: 3}, move(1, "alice", 1, "bob"), move(2, "alice", 1, "alice"), move(-1, "A", -1, ""), put(1, "alice", "k", "v"), put(7, "alice", "k", "\n")} {
		if e := s.Do(x); e != api.ErrNil {
			t.Errorf("Do(%+v) of nil: %d", x, e)
		}
	}
	for _, who := range anyTexts() {
		has(t, s, who, 0, 0)
		holds(t, s, who, "k", "")
		holds(t, s, "alice", who, "")
	}
	total(t, s, 0)
	digest(t, s, "")
	if s.Copy() != nil {
		t.Error("Copy of nil: one")
	}
}

// TestP9_3_TheSameTransactionTwice: at once, and behind all others that come.
func TestP9_3_TheSameTransactionTwice(t *testing.T) {
	s := made(t, of("alice", 100), of("bob", 100))
	l := []api.Tx{move(1, "alice", 1, "bob"), put(2, "alice", "k", "v"), move(3, "alice", 2, "alice"), put(4, "alice", "k", ""), move(1, "bob", 50, "alice"),
		put(1, "carol", "k", "v"), move(5, "alice", 149, "carol"), move(2, "carol", 149, "alice"), put(6, "alice", "k", "v")}
	for n, x := range l {
		does(t, s, x)
		for _, past := range l[:n+1] {
			refuses(t, s, past, api.ErrNonce)
		}
		total(t, s, 200)
	}
	// Nor on a copy.
	for _, past := range l {
		refuses(t, s.Copy(), past, api.ErrNonce)
	}
	digest(t, s, "alice 149 6\nbob 51 1\ncarol 0 2\nalice\tk\tv\ncarol\tk\tv\n")
}

// choices: small transactions of small names, right and not.
func choices() []api.Tx {
	l := []api.Tx{{}}
	for nonce := int64(1); nonce <= 3; nonce++ {
		for _, from := range []string{"a", "b"} {
			for _, amount := range []int64{1, 2} {
				l = append(l, move(nonce, from, amount, "a"), move(nonce, from, amount, "b"))
			}
			l = append(l, put(nonce, from, "k", ""), put(nonce, from, "k", "v"), put(nonce, from, "l", "v"))
		}
	}
	return l
}

// TestP9_3_OneDigestAnswersTheSame: of all states that some steps lead to, those with one digest answer the same, now and
// behind each step.
func TestP9_3_OneDigestAnswersTheSame(t *testing.T) {
	whos, keys := []string{"a", "b", "c"}, []string{"k", "l"}
	told := map[string]string{}
	level := []*state.State{made(t), made(t, of("a", 0)), made(t, of("b", 0), of("a", 0)), made(t, of("a", 2)), made(t, of("a", 2), of("b", 0)), made(t, of("b", 2), of("c", 0)), made(t, of("a", 1), of("b", 1))}
	states := 0
	for range 4 {
		var next []*state.State
		for _, s := range level {
			states++
			now, sum := answers(s, whos, keys), s.Total()
			for _, x := range choices() {
				c := s.Copy()
				e := c.Do(x)
				now += fmt.Sprintf("%d %q\n", e, c.Digest())
				total(t, c, sum)
				if e == api.OK {
					next = append(next, c)
				}
			}
			if before, there := told[s.Digest()]; there && before != now {
				t.Fatalf("of the digest %q: %s and %s", s.Digest(), before, now)
			}
			told[s.Digest()] = now
		}
		level = next
	}
	if len(told) < 50 || states < 10*len(told) {
		t.Errorf("%d digests of %d states", len(told), states)
	}
}

// dice: numbers that look drawn, the same each time.
type dice struct{ seed uint64 }

// below: a number from 0 to n less 1.
func (d *dice) below(n int) int {
	d.seed = d.seed*6364136223846793005 + 1442695040888963407
	return int(d.seed >> 33 % uint64(n))
}

// model: a second reckoning, which has what was there at first and what was done, and goes through all of it each time.
type model struct {
	first []api.Account
	done  []api.Tx
}

// amount: somebody's.
func (m *model) amount(who string) int64 {
	n := int64(0)
	for _, x := range m.first {
		if x.Name == who {
			n += x.Amount
		}
	}
	for _, x := range m.done {
		if x.Kind == 1 && x.To == who {
			n += x.Amount
		}
		if x.Kind == 1 && x.From == who {
			n -= x.Amount
		}
	}
	return n
}

// nonce: somebody's.
func (m *model) nonce(who string) int64 {
	n := int64(0)
	for _, x := range m.done {
		if x.From == who {
			n++
		}
	}
	return n
}

// value: of somebody's key: the last one.
func (m *model) value(who, key string) string {
	for _, x := range slices.Backward(m.done) {
		if x.Kind == 2 && x.From == who && x.Key == key {
			return x.Val
		}
	}
	return ""
}

// do: what is expected of a transaction.
func (m *model) do(x api.Tx) api.Errno {
	if tx.Check(x) != api.OK {
		return api.ErrTx
	}
	for _, past := range m.done {
		if past.From == x.From && past.Nonce >= x.Nonce {
			return api.ErrNonce
		}
	}
	if x.Nonce > m.nonce(x.From)+1 {
		return api.ErrNonce
	}
	if x.Kind == 1 && m.amount(x.From) < x.Amount {
		return api.ErrFunds
	}
	m.done = append(m.done, x)
	return api.OK
}

// digest: of names and keys of which each is ahead of the next one.
func (m *model) digest(whos, keys []string) string {
	var lines, more strings.Builder
	for _, who := range whos {
		if a, n := m.amount(who), m.nonce(who); a+n > 0 {
			fmt.Fprintf(&lines, "%s %d %d\n", who, a, n)
		}
		for _, key := range keys {
			if val := m.value(who, key); val != "" {
				fmt.Fprintf(&more, "%s\t%s\t%s\n", who, key, val)
			}
		}
	}
	return lines.String() + more.String()
}

// row: a state, and the second reckoning of it.
type row struct {
	s *state.State
	m *model
}

// copied: both of them.
func (r row) copied() row {
	return row{r.s.Copy(), &model{slices.Clone(r.m.first), slices.Clone(r.m.done)}}
}

// drawn: a transaction; most are right, and many of those are done.
func (r row) drawn(d *dice, whos, keys []string) api.Tx {
	from, to := whos[d.below(len(whos))], whos[d.below(len(whos))]
	nonce := r.s.Nonce(from) + 1
	switch d.below(12) {
	case 0:
		nonce += int64(d.below(3) - 1)
	case 1:
		nonce = int64(d.below(40))
	}
	x := move(nonce, from, int64(d.below(30)+1), to)
	switch d.below(8) {
	case 0:
		// Just what there is, or one more.
		x.Amount = r.s.Amount(from) + int64(d.below(2))
	case 1, 2, 3:
		x = put(nonce, from, keys[d.below(len(keys))], []string{"", "", "v", "w", "v w", " ", "é"}[d.below(7)])
	}
	switch d.below(40) {
	case 0:
		x.Kind = d.below(5)
	case 1:
		x.From = noNames()[d.below(len(noNames()))]
	case 2:
		x.To = noNames()[d.below(len(noNames()))]
	case 3:
		x.Val += "\n"
	}
	return x
}

// same: is all as in the second reckoning?
func (r row) same(t *testing.T, whos, keys []string) {
	t.Helper()
	sum := int64(0)
	for _, who := range whos {
		has(t, r.s, who, r.m.amount(who), r.m.nonce(who))
		sum += r.m.amount(who)
		for _, key := range keys {
			holds(t, r.s, who, key, r.m.value(who, key))
		}
	}
	total(t, r.s, sum)
	digest(t, r.s, r.m.digest(whos, keys))
}

// TestP9_ByASecondReckoning: a long row of accounts and transactions, on several copies by turns.
func TestP9_ByASecondReckoning(t *testing.T) {
	whos, keys := []string{"_", "a", "a-", "aa", "b", "zz", "ß", "é", "ω"}, []string{"_k", "k", "k-", "é", "ς"}
	for seed := range uint64(4) {
		d := &dice{seed}
		var first []api.Account
		for _, who := range mixed(whos, seed)[:3+seed] {
			first = append(first, of(who, int64(d.below(3)*d.below(200))))
		}
		rows := []row{{made(t, first...), &model{first: first}}}
		told := map[api.Errno]int{}
		for n := range 4000 {
			r := rows[d.below(len(rows))]
			x := r.drawn(d, whos, keys)
			got, want := r.s.Do(x), r.m.do(x)
			if got != want {
				t.Fatalf("Do(%+v): %d, not %d", x, got, want)
			}
			told[got]++
			if n%500 == 499 {
				rows = append(rows, r.copied())
			}
			if n%40 == 0 {
				r.same(t, whos, keys)
			}
		}
		for _, r := range rows {
			r.same(t, whos, keys)
		}
		for _, e := range []api.Errno{api.OK, api.ErrTx, api.ErrNonce, api.ErrFunds} {
			if told[e] < 50 {
				t.Errorf("seed %d: the answer %d came %d times", seed, e, told[e])
			}
		}
	}
}

// newly: what is expected of accounts, by holding each one against all ahead of it.
func newly(l []api.Account) api.Errno {
	for n, x := range l {
		sum := uint64(0)
		for _, y := range l[:n] {
			sum += uint64(y.Amount)
		}
		switch {
		case !slices.Contains(names(), x.Name) || x.Amount < 0:
			return api.ErrArg
		case slices.ContainsFunc(l[:n], func(y api.Account) bool { return y.Name == x.Name }):
			return api.ErrThere
		case sum+uint64(x.Amount) > 1<<62:
			return api.ErrOver
		}
	}
	return api.OK
}

// TestP9_1_NewByASecondReckoning: many rows of accounts, most of which aren't right.
func TestP9_1_NewByASecondReckoning(t *testing.T) {
	d, told := &dice{7}, map[api.Errno]int{}
	amounts := []int64{0, 0, 1, 2, 5, 1 << 61, 1<<61 - 1, api.MaxInt - 7, api.MaxInt, api.MaxInt + 1, math.MaxInt64, -1}
	for range 20000 {
		var l []api.Account
		for range d.below(8) {
			x := of(names()[d.below(len(names()))], amounts[d.below(4+d.below(9))])
			if d.below(20) == 0 {
				x.Name = noNames()[d.below(len(noNames()))]
			}
			l = append(l, x)
		}
		want := newly(l)
		told[want]++
		if want != api.OK {
			unmade(t, want, l...)
			continue
		}
		r := row{made(t, l...), &model{first: l}}
		digest(t, r.s, r.m.digest(names(), nil))
	}
	for _, e := range []api.Errno{api.OK, api.ErrArg, api.ErrThere, api.ErrOver} {
		if told[e] < 500 {
			t.Errorf("the answer %d came %d times", e, told[e])
		}
	}
}

// lent: a text whose bytes are changed later, all of them, by a call of what is told beside it.
func lent(s string) (string, func()) {
	b := []byte(s)
	return unsafe.String(unsafe.SliceData(b), len(b)), func() {
		for n := range b {
			b[n] = '!'
		}
	}
}

// TestR4_NoTextOfOthersIsKept: neither of accounts, nor of transactions on names and keys that are new, or there.
func TestR4_NoTextOfOthersIsKept(t *testing.T) {
	alice, a := lent("alice")
	bob, b := lent("bob")
	s := made(t, of(alice, 5), of(bob, 7))
	a()
	b()
	digest(t, s, "alice 5 0\nbob 7 0\n")
	for _, x := range []api.Tx{move(1, "alice", 1, "carol"), put(1, "bob", "k", "v"), move(2, "alice", 3, "bob"), put(2, "bob", "k", "w"), put(3, "alice", "k", ""), move(3, "bob", 10, "carol")} {
		var turns [4]func()
		x.From, turns[0] = lent(x.From)
		x.To, turns[1] = lent(x.To)
		x.Key, turns[2] = lent(x.Key)
		x.Val, turns[3] = lent(x.Val)
		if e := s.Do(x); e != api.OK {
			t.Fatalf("Do(%+v): %d", x, e)
		}
		for _, turn := range turns {
			turn()
		}
	}
	c := s.Copy()
	does(t, c, move(1, "carol", 3, "alice"), move(4, "alice", 1, "bob"))
	digest(t, s, "alice 1 3\nbob 0 3\ncarol 11 0\nbob\tk\tw\n")
	digest(t, c, "alice 3 4\nbob 1 3\ncarol 8 1\nbob\tk\tw\n")
	has(t, s, "alice", 1, 3)
	holds(t, s, "bob", "k", "w")
}

// TestR4_AccountsStay: those that are handed in stay as they are; what is done with them later isn't seen.
func TestR4_AccountsStay(t *testing.T) {
	l := []api.Account{of("c", 1), of("a", 2), of("b", 0), of("left", 9)}[:3]
	before := slices.Clone(l[:4])
	s := made(t, l...)
	does(t, s, move(1, "a", 1, "b"))
	s.Digest()
	if !slices.Equal(l[:4], before) {
		t.Errorf("the accounts are %v, not %v", l[:4], before)
	}
	l[0], l[1], l[2] = of("x", 100), of("a", 100), of("c", 100)
	digest(t, s, "a 1 1\nb 1 0\nc 1 0\n")
	wrong := []api.Account{of("a", 1), of("a", 1), of("B", -1)}
	before = slices.Clone(wrong)
	unmade(t, api.ErrThere, wrong...)
	if !slices.Equal(wrong, before) {
		t.Errorf("the accounts are %v, not %v", wrong, before)
	}
}

// TestR4_ValuesAreTheCallers: a value that is told lies neither in another one, nor in a copy's.
func TestR4_ValuesAreTheCallers(t *testing.T) {
	s := made(t)
	does(t, s, put(1, "a", "k", "value"))
	c := s.Copy()
	told := map[*byte]int{}
	for range 3 {
		for _, val := range []string{s.Value("a", "k"), c.Value("a", "k")} {
			told[unsafe.StringData(val)]++
		}
	}
	if len(told) != 6 {
		t.Errorf("6 values lie in %d places", len(told))
	}
}

// TestR4_WhoHoldsIt: a state is an object: who holds it sees what is done with it.
func TestR4_WhoHoldsIt(t *testing.T) {
	a := made(t, of("alice", 5))
	b := a
	does(t, a, move(1, "alice", 2, "bob"))
	refuses(t, b, move(1, "alice", 2, "bob"), api.ErrNonce)
	does(t, b, put(2, "alice", "k", "v"))
	digest(t, a, "alice 3 2\nbob 2 0\nalice\tk\tv\n")
}

func TestR6_NothingIsKeptBetweenStates(t *testing.T) {
	for range 3 {
		s := made(t, of("alice", 5))
		unmade(t, api.ErrThere, of("bob", 1), of("bob", 1))
		other := made(t, of("bob", 1))
		does(t, s, move(1, "alice", 2, "bob"), put(2, "alice", "k", "v"))
		digest(t, other, "bob 1 0\n")
		does(t, other, put(1, "alice", "k", "w"))
		digest(t, s, "alice 3 2\nbob 2 0\nalice\tk\tv\n")
	}
}
