package safe

import (
	"bytes"
	"slices"

	"hallmoot/api"
	"hallmoot/block"
	"hallmoot/cert"
	"hallmoot/wire"
)

// This file has records and states as bytes, and states made anew of them.

// Bytes: a record's.
func Bytes(r Rec) ([]byte, api.Errno) {
	if e := check(r); e != api.OK {
		return nil, e
	}
	b := nums(r.Kind)
	switch r.Kind {
	case vote, fall:
		return slices.Concat(b, certBytes(r.Cert), certBytes(r.Parent)), api.OK
	case high:
		return slices.Concat(b, certBytes(r.Cert)), api.OK
	case exit:
		return slices.Concat(b, nums(int(r.Set), r.Author)), api.OK
	case commit:
		return slices.Concat(b, nums(r.Count, r.Block)), api.OK
	case own, keep:
		return slices.Concat(b, textBytes(r.Text)), api.OK
	}
	return b, api.OK
}

// Parse: the record of bytes.
func Parse(b []byte) (Rec, api.Errno) {
	from := wire.New(b)
	r := Rec{Kind: fit(from.Num())}
	switch r.Kind {
	case vote, fall:
		r.Cert, r.Parent = cert.Take(from), cert.Take(from)
	case high:
		r.Cert = cert.Take(from)
	case exit:
		r.Set, r.Author = uint32(fit(from.Num())), fit(from.Num())
	case commit:
		r.Count, r.Block = fit(from.Num()), fit(from.Num())
	case own, keep:
		r.Text = from.Text()
	}
	if e := from.Done(); e != api.OK {
		return Rec{}, e
	}
	if check(r) != api.OK {
		return Rec{}, api.ErrSafe
	}
	return r, api.OK
}

// Snapshot: a state's bytes.
func (s Safe) Snapshot() []byte {
	shared := 0
	if s.Shared {
		shared = 1
	}
	return slices.Concat(
		nums(s.Last, s.View, s.Mode, s.Round, s.Block), certBytes(s.High), certBytes(s.GaveHigh),
		list(s.Falls, fallBytes), list(s.Heads, certBytes), nums(shared), each(s.Own[:], textBytes),
		list(s.Past, func(set uint32) []byte { return nums(int(set)) }), nums(s.Count, s.Tip), list(s.Blocks, textBytes))
}

// Restore: the state of bytes.
func Restore(b []byte) (Safe, api.Errno) {
	r := wire.New(b)
	s := read(r)
	if e := r.Done(); e != api.OK {
		return Safe{}, e
	}
	// Held against the bytes too, since reading leaves away what a state doesn't have: a fall's signers and coin, and what is neither 0 nor 1.
	if !may(s) || !bytes.Equal(s.Snapshot(), b) {
		return Safe{}, api.ErrSafe
	}
	return s, api.OK
}

// Replay: the state behind a snapshot and records.
func Replay(last int, snapshot []byte, records [][]byte) (Safe, api.Errno) {
	s, e := begin(last, snapshot)
	if e != api.OK {
		return Safe{}, e
	}
	for _, b := range records {
		r, e := Parse(b)
		if e != api.OK {
			return Safe{}, e
		}
		if e := s.refuses(r); e != api.OK {
			return Safe{}, e
		}
		// Without a copy, which would be made for each record of a long roll: nobody else has this state.
		s = s.did(r)
	}
	return s, api.OK
}

// Same: are they the same?
func Same(a, b Safe) bool { return bytes.Equal(a.Snapshot(), b.Snapshot()) }

// begin: the state of a snapshot, or of view 1, if there is none.
func begin(last int, snapshot []byte) (Safe, api.Errno) {
	s, e := New(last)
	if e != api.OK || len(snapshot) == 0 {
		return s, e
	}
	s, e = Restore(snapshot)
	if e == api.OK && s.Last != last {
		return Safe{}, api.ErrSafe
	}
	return s, e
}

// read: what a reader has as a state, right or not.
func read(r *wire.Reader) Safe {
	s := Safe{Last: fit(r.Num()), View: fit(r.Num()), Mode: fit(r.Num()), Round: fit(r.Num()), Block: fit(r.Num()), High: cert.Take(r), GaveHigh: cert.Take(r)}
	s.Falls = readList(r, func(r *wire.Reader) api.Cert { return cert.Plain(cert.Take(r)) })
	s.Heads = readList(r, cert.Take)
	s.Shared = r.Num() == 1
	for height := range s.Own {
		s.Own[height] = r.Text()
	}
	s.Past = readList(r, func(r *wire.Reader) uint32 { return uint32(fit(r.Num())) })
	s.Count, s.Tip = fit(r.Num()), fit(r.Num())
	s.Blocks = readList(r, (*wire.Reader).Text)
	return s
}

// readList: the next list of a reader: how many there are, and each by what is handed in.
func readList[T any](r *wire.Reader, one func(*wire.Reader) T) []T {
	var l []T
	for range r.Num() {
		item := one(r)
		// However many are announced, there are no more than bytes.
		if failed(r) {
			return nil
		}
		l = append(l, item)
	}
	return l
}

// fit: a number of a reader; one so great that neither a record nor a state has it, which an int or a set might cut, is -1, which none has either (as a set: all 32 bits).
func fit(n int64) int {
	if n > most {
		return -1
	}
	return int(n)
}

// failed: has a reader an error? (Where bytes are left, Done's answer is none of its own.)
func failed(r *wire.Reader) bool { return r.Rest() == 0 && r.Done() != api.OK }

// may: is each part what a state has in its view and mode, if High and GaveHigh may be certificates?
func may(s Safe) bool {
	return within(s.Last, 1, api.MaxView) && within(s.View, 1, s.Last) && within(s.Mode, steady, falling) &&
		noneOrBoth(s.Round, api.MaxRound, s.Block) && noneOrBoth(s.Count, most, s.Tip) &&
		gaves(s) && falls(s) && owns(s) && len(s.Past) == s.View-1 && !slices.ContainsFunc(s.Past, func(set uint32) bool { return !coins(set) }) &&
		keeps(s.Blocks)
}

// noneOrBoth: is there neither a number nor a block of it, or are there both?
func noneOrBoth(n, greatest, block int) bool {
	return n == 0 && block == 0 || within(n, 1, greatest) && within(block, 1, most)
}

// gaves: is GaveHigh what High may have been, when the view was given up?
func gaves(s Safe) bool {
	if s.Mode == steady {
		return s.GaveHigh == (api.Cert{})
	}
	return cert.Cmp(s.GaveHigh, s.High) <= 0
}

// falls: are there Falls, Heads and Shared in the fallback alone, and both lists of this view, and rising?
func falls(s Safe) bool {
	if s.Mode != falling {
		return len(s.Falls) == 0 && len(s.Heads) == 0 && !s.Shared
	}
	return rises(s.Falls, s.View) && rises(s.Heads, s.View)
}

// rises: are they of the fallback of a view, not endorsed, each of an author above that of the one ahead?
func rises(l []api.Cert, view int) bool {
	last := -1
	for _, c := range l {
		if !bare(c) || c.View != view || c.Author <= last {
			return false
		}
		last = c.Author
	}
	return true
}

// owns: is each of Own a block of this view, and of its Height, or none?
func owns(s Safe) bool {
	for height, text := range s.Own {
		b, e := block.Parse(text)
		if text != "" && (e != api.OK || b.View != s.View || b.Height != height) {
			return false
		}
	}
	return true
}

// keeps: are they the bytes of blocks, none twice?
func keeps(l []string) bool {
	seen := map[string]struct{}{}
	for _, text := range l {
		if _, there := seen[text]; there || !isBlock(text) {
			return false
		}
		seen[text] = struct{}{}
	}
	return true
}

// nums: the bytes of numbers that wire allows.
func nums(l ...int) []byte {
	var b []byte
	for _, n := range l {
		b = append(b, sure(wire.Nums(int64(n)))...)
	}
	return b
}

// sure: the bytes of what is known to be right: their error needn't be asked.
func sure(b []byte, _ api.Errno) []byte { return b }

// certBytes: those of a certificate that may be one.
func certBytes(c api.Cert) []byte { return sure(cert.Bytes(c)) }

// fallBytes: those of one without sets, with 1 as Signers, as no certificate has none.
func fallBytes(c api.Cert) []byte {
	c.Signers = 1
	return certBytes(c)
}

// textBytes: those of a block's text, which is never too long.
func textBytes(text string) []byte { return sure(wire.Text(nil, text)) }

// each: the bytes of all items, each by what is handed in.
func each[T any](l []T, one func(T) []byte) []byte {
	var b []byte
	for _, item := range l {
		b = append(b, one(item)...)
	}
	return b
}

// list: how many items there are, and their bytes.
func list[T any](l []T, one func(T) []byte) []byte { return append(nums(len(l)), each(l, one)...) }
