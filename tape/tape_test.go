package tape_test

import (
	"bytes"
	"math"
	"strings"
	"testing"

	"hallmoot/api"
	"hallmoot/tape"
)

const (
	ok     = api.OK
	arg    = api.ErrArg
	none   = api.ErrNil
	power  = api.ErrPower
	noRoom = api.ErrRoom
	place  = api.ErrPlace
)

// TestP17_1_New: a tape of 0, 1, and so on, as many as may be, holds nothing, and has the power on.
func TestP17_1_New(t *testing.T) {
	for _, room := range []int{0, 1, 2, 255, 256, 1<<16 + 1, 1<<24 - 1, 1 << 24} {
		x := made(t, room)
		write(t, x, "", ok)
		hold(t, x, ok)
		shed(t, x, 0, ok)
		back(t, x, 0, ok)
		shed(t, x, 1, place)
		back(t, x, 1, place)
		crash(t, x, 1, ok)
		holds(t, x, 0, 0, "")
	}
}

// TestP17_1_NewOfAnotherRoom: below 0, one more than may be, and numbers far off.
func TestP17_1_NewOfAnotherRoom(t *testing.T) {
	for _, room := range ends() {
		refused(t, room, arg)
	}
	refused(t, api.MaxDisk+1, arg)
	made(t, api.MaxDisk)
}

// TestP17_1_Write: nothing, one byte, and many, each behind what is there.
func TestP17_1_Write(t *testing.T) {
	x := made(t, 1000)
	if e := x.Write(nil); e != ok {
		t.Errorf("Write of nil: %d", e)
	}
	holds(t, x, 0, 0, "")
	all := ""
	for _, s := range []string{"a", "", "b", "cd", "\x00\xff\x80\x00", "", strings.Repeat("xyz", 100), "\n"} {
		write(t, x, s, ok)
		all += s
		holds(t, x, 0, 0, all)
	}
}

// TestP17_1_WriteOfEachByte: all of them are bytes like others.
func TestP17_1_WriteOfEachByte(t *testing.T) {
	x := made(t, 256)
	var all []byte
	for c := range 256 {
		all = append(all, byte(c))
		write(t, x, string(all[c:]), ok)
	}
	holds(t, x, 0, 0, string(all))
	write(t, x, "a", noRoom)
	back(t, x, 0, ok)
	write(t, x, string(all), ok)
	holds(t, x, 0, 0, string(all))
}

// TestP17_1_Room: as many bytes as there is room for, in one call and in several, and not one more.
func TestP17_1_Room(t *testing.T) {
	for room := range 12 {
		s := string(letters(0, room))
		for cut := range room + 1 {
			x := made(t, room)
			write(t, x, s+"z", noRoom)
			holds(t, x, 0, 0, "")
			write(t, x, s[:cut], ok)
			for more := room - cut + 1; more < room+20; more++ {
				write(t, x, string(letters(3, more)), noRoom)
			}
			holds(t, x, 0, 0, s[:cut])
			write(t, x, s[cut:], ok)
			write(t, x, "", ok)
			write(t, x, "z", noRoom)
			hold(t, x, ok)
			write(t, x, "z", noRoom)
			holds(t, x, 0, room, s)
		}
	}
}

// TestP17_1_RoomOfAll: as much as may be, in one call, in two, and byte by byte at its end.
func TestP17_1_RoomOfAll(t *testing.T) {
	b := letters(5, 1<<24+1)
	x := made(t, 1<<24)
	if e := x.Write(b); e != noRoom {
		t.Fatalf("Write of one more: %d", e)
	}
	places(t, x, 0, 0, 0)
	if e := x.Write(b[:1<<24-2]); e != ok {
		t.Fatalf("Write: %d", e)
	}
	for i := 1<<24 - 2; i < 1<<24; i++ {
		write(t, x, string(b[i:i+1]), ok)
	}
	write(t, x, "z", noRoom)
	hold(t, x, ok)
	places(t, x, 0, 1<<24, 1<<24)
	if n, c, e := x.Read(); n != 0 || !bytes.Equal(c, b[:1<<24]) || e != ok {
		t.Fatalf("Read: %d, %d bytes, %d", n, len(c), e)
	}
	shed(t, x, 1<<24, ok)
	if e := x.Write(b[1 : 1+1<<24]); e != ok {
		t.Fatalf("Write behind Shed: %d", e)
	}
	places(t, x, 1<<24, 1<<24, 1<<25)
	if n, c, e := x.Read(); n != 1<<24 || !bytes.Equal(c, b[1:]) || e != ok {
		t.Fatalf("Read: %d, %d bytes, %d", n, len(c), e)
	}
}

// TestP17_1_RoomBehindShed: what is let go makes room, as much as it was.
func TestP17_1_RoomBehindShed(t *testing.T) {
	for p := range 6 {
		x := made(t, 5)
		write(t, x, "abcde", ok)
		hold(t, x, ok)
		shed(t, x, p, ok)
		write(t, x, string(letters(10, p+1)), noRoom)
		holds(t, x, p, 5, "abcde"[p:])
		write(t, x, string(letters(10, p)), ok)
		write(t, x, "z", noRoom)
		holds(t, x, p, 5, "abcde"[p:]+string(letters(10, p)))
	}
}

// TestP17_1_RoomBehindBack: what is taken back makes room, as much as it was.
func TestP17_1_RoomBehindBack(t *testing.T) {
	for p := range 6 {
		for fast := range 6 {
			x := made(t, 5)
			write(t, x, "abcde"[:fast], ok)
			hold(t, x, ok)
			write(t, x, "abcde"[fast:], ok)
			back(t, x, p, ok)
			write(t, x, string(letters(10, 6-p)), noRoom)
			holds(t, x, 0, min(p, fast), "abcde"[:p])
			write(t, x, string(letters(10, 5-p)), ok)
			write(t, x, "z", noRoom)
			holds(t, x, 0, min(p, fast), "abcde"[:p]+string(letters(10, 5-p)))
		}
	}
}

// TestP17_1_RoomBehindCrash: what went with the power makes room.
func TestP17_1_RoomBehindCrash(t *testing.T) {
	for keep := range 4 {
		x := made(t, 5)
		write(t, x, "ab", ok)
		hold(t, x, ok)
		write(t, x, "cde", ok)
		crash(t, x, keep, ok)
		write(t, x, string(letters(10, 4-keep)), noRoom)
		holds(t, x, 0, 2+keep, "abcde"[:2+keep])
		write(t, x, string(letters(10, 3-keep)), ok)
		write(t, x, "z", noRoom)
	}
}

// TestP17_1_RoomIsOfWhatItHolds: however much was ever written, and let go; it goes on in a tape of one byte too.
func TestP17_1_RoomIsOfWhatItHolds(t *testing.T) {
	for room := 1; room <= 4; room++ {
		x := made(t, room)
		for k := range 300 {
			b := string(letters(k, room))
			write(t, x, b, ok)
			write(t, x, "z", noRoom)
			hold(t, x, ok)
			holds(t, x, k*room, (k+1)*room, b)
			shed(t, x, (k+1)*room, ok)
			holds(t, x, (k+1)*room, (k+1)*room, "")
		}
	}
}

// TestP17_1_Hold: of nothing, of some, twice, and of what came behind it.
func TestP17_1_Hold(t *testing.T) {
	x := made(t, 100)
	hold(t, x, ok)
	holds(t, x, 0, 0, "")
	write(t, x, "abc", ok)
	holds(t, x, 0, 0, "abc")
	hold(t, x, ok)
	holds(t, x, 0, 3, "abc")
	hold(t, x, ok)
	holds(t, x, 0, 3, "abc")
	write(t, x, "de", ok)
	holds(t, x, 0, 3, "abcde")
	hold(t, x, ok)
	holds(t, x, 0, 5, "abcde")
	shed(t, x, 4, ok)
	hold(t, x, ok)
	holds(t, x, 4, 5, "e")
	back(t, x, 4, ok)
	hold(t, x, ok)
	holds(t, x, 4, 4, "")
	write(t, x, "f", ok)
	hold(t, x, ok)
	holds(t, x, 4, 5, "f")
}

// TestP17_Examples: that of the chapter.
func TestP17_Examples(t *testing.T) {
	x := made(t, 6)
	write(t, x, "abc", ok)
	hold(t, x, ok)
	write(t, x, "def", ok)
	shed(t, x, 1, ok)
	crash(t, x, 2, ok)
	holds(t, x, 1, 5, "bcde")
}

// TestP17_2_Shed: each place from First to Fast, and no other one.
func TestP17_2_Shed(t *testing.T) {
	const s = "abcdefgh"
	for fast := range len(s) + 1 {
		for first := range fast + 1 {
			for p := -3; p <= len(s)+3; p++ {
				x := written(t, s, fast, first)
				if p < first || p > fast {
					shed(t, x, p, place)
					holds(t, x, first, fast, s[first:])
					continue
				}
				shed(t, x, p, ok)
				holds(t, x, p, fast, s[p:])
			}
		}
	}
}

// TestP17_2_ShedOfPlacesFarOff: below 0, and beyond all.
func TestP17_2_ShedOfPlacesFarOff(t *testing.T) {
	for _, x := range []*tape.Tape{made(t, 5), written(t, "abcde", 5, 0), written(t, "abcde", 4, 2), written(t, "abcde", 0, 0)} {
		first, fast, end := x.Places()
		for _, p := range ends() {
			shed(t, x, p, place)
		}
		places(t, x, first, fast, end)
		shed(t, x, fast, ok)
		places(t, x, fast, fast, end)
	}
}

// TestP17_2_ShedAgain: a place counts what was let go, and what was let go stays so.
func TestP17_2_ShedAgain(t *testing.T) {
	x := made(t, 10)
	write(t, x, "abcdefgh", ok)
	hold(t, x, ok)
	for _, p := range []int{0, 1, 1, 3, 6} {
		shed(t, x, p, ok)
		holds(t, x, p, 8, "abcdefgh"[p:])
		for q := range p {
			shed(t, x, q, place)
			back(t, x, q, place)
		}
	}
	write(t, x, "ij", ok)
	holds(t, x, 6, 8, "ghij")
	shed(t, x, 9, place)
	shed(t, x, 8, ok)
	holds(t, x, 8, 8, "ij")
	hold(t, x, ok)
	shed(t, x, 9, ok)
	holds(t, x, 9, 10, "j")
	crash(t, x, 0, ok)
	holds(t, x, 9, 10, "j")
	shed(t, x, 8, place)
}

// TestP17_2_Back: each place from First to End, and no other one; Fast goes with it.
func TestP17_2_Back(t *testing.T) {
	const s = "abcdefgh"
	for fast := range len(s) + 1 {
		for first := range fast + 1 {
			for p := -3; p <= len(s)+3; p++ {
				x := written(t, s, fast, first)
				if p < first || p > len(s) {
					back(t, x, p, place)
					holds(t, x, first, fast, s[first:])
					continue
				}
				back(t, x, p, ok)
				holds(t, x, first, min(fast, p), s[first:p])
			}
		}
	}
}

// TestP17_2_BackOfPlacesFarOff: below 0, and beyond all.
func TestP17_2_BackOfPlacesFarOff(t *testing.T) {
	for _, x := range []*tape.Tape{made(t, 5), written(t, "abcde", 5, 0), written(t, "abcde", 4, 2), written(t, "abcde", 0, 0)} {
		first, fast, end := x.Places()
		for _, p := range ends() {
			back(t, x, p, place)
		}
		places(t, x, first, fast, end)
		back(t, x, first, ok)
		holds(t, x, first, first, "")
	}
}

// TestP17_2_WriteBehindBack: what is written stands at the new end, whatever stood there, and isn't fast.
func TestP17_2_WriteBehindBack(t *testing.T) {
	const s = "abcdefgh"
	for fast := range len(s) + 1 {
		for first := range fast + 1 {
			for p := first; p <= len(s); p++ {
				x := written(t, s, fast, first)
				back(t, x, p, ok)
				write(t, x, "xyz", ok)
				holds(t, x, first, min(fast, p), s[first:p]+"xyz")
				back(t, x, p+3, ok)
				back(t, x, p+4, place)
				back(t, x, p+2, ok)
				holds(t, x, first, min(fast, p), s[first:p]+"xy")
				shed(t, x, p+1, place)
				hold(t, x, ok)
				shed(t, x, p+1, ok)
				holds(t, x, p+1, p+2, "y")
			}
		}
	}
}

// TestP17_2_AtOnceAndForGood: what is let go or taken back, fast or not, comes again behind no crash.
func TestP17_2_AtOnceAndForGood(t *testing.T) {
	for _, keep := range []int{0, 1, 2, 3, 7, -1, math.MaxInt, math.MinInt} {
		x := written(t, "abcdefgh", 6, 0)
		shed(t, x, 2, ok)
		back(t, x, 4, ok)
		lit(t, x, keep, 2, 4, "cd")
		x = written(t, "abcdefgh", 4, 0)
		shed(t, x, 2, ok)
		back(t, x, 4, ok)
		lit(t, x, keep, 2, 4, "cd")
		back(t, x, 2, ok)
		lit(t, x, keep, 2, 2, "")
		write(t, x, "x", ok)
		hold(t, x, ok)
		lit(t, x, keep, 2, 3, "x")
	}
}

// TestP17_3_WhichStroke: of a row of calls with so many strokes the one that finds none left: of a Write the bytes ahead of it stand; of the others nothing is done.
func TestP17_3_WhichStroke(t *testing.T) {
	type step struct {
		do               func(x *tape.Tape) api.Errno
		strokes          int
		first, fast, end int // behind it
	}
	steps := []step{
		{func(x *tape.Tape) api.Errno { return x.Write([]byte("abc")) }, 3, 0, 0, 3},
		{func(x *tape.Tape) api.Errno { return x.Hold() }, 1, 0, 3, 3},
		{func(x *tape.Tape) api.Errno { return x.Write(nil) }, 0, 0, 3, 3},
		{func(x *tape.Tape) api.Errno { return x.Write([]byte("defg")) }, 4, 0, 3, 7},
		{func(x *tape.Tape) api.Errno { return x.Shed(2) }, 1, 2, 3, 7},
		{func(x *tape.Tape) api.Errno { return x.Shed(2) }, 1, 2, 3, 7},
		{func(x *tape.Tape) api.Errno { return x.Back(6) }, 1, 2, 3, 6},
		{func(x *tape.Tape) api.Errno { return x.Back(6) }, 1, 2, 3, 6},
		{func(x *tape.Tape) api.Errno { return x.Hold() }, 1, 2, 6, 6},
		{func(x *tape.Tape) api.Errno { return x.Hold() }, 1, 2, 6, 6},
		{func(x *tape.Tape) api.Errno { return x.Back(4) }, 1, 2, 4, 4},
		{func(x *tape.Tape) api.Errno { return x.Write([]byte("hi")) }, 2, 2, 4, 6},
		{func(x *tape.Tape) api.Errno { return x.Shed(4) }, 1, 4, 4, 6},
	}
	all := 0
	for _, s := range steps {
		all += s.strokes
	}
	for many := range all + 3 {
		x := made(t, 8)
		fuse(t, x, many, ok)
		left := many
		first, fast, end := 0, 0, 0
		for i, s := range steps {
			e := s.do(x)
			if s.strokes <= left {
				left -= s.strokes
				first, fast, end = s.first, s.fast, s.end
				places(t, x, first, fast, end)
				if e != ok || !x.On() {
					t.Fatalf("of %d, step %d: %d, %t", many, i, e, x.On())
				}
				continue
			}
			if e != power {
				t.Fatalf("of %d, step %d: %d", many, i, e)
			}
			if s.strokes > 1 {
				end += left
			}
			dark(t, x, first, fast, end)
			break
		}
		if x.On() != (many >= all) {
			t.Fatalf("of %d: %t", many, x.On())
		}
	}
}

// TestP17_3_FuseInAWrite: the bytes ahead of the stroke that finds none left stand, and are kept by a crash like others.
func TestP17_3_FuseInAWrite(t *testing.T) {
	for strokes := range 9 {
		for keep := range 9 {
			x := made(t, 20)
			write(t, x, "ab", ok)
			hold(t, x, ok)
			fuse(t, x, strokes, ok)
			if strokes == 8 {
				write(t, x, "cdefghij", ok)
				holds(t, x, 0, 2, "abcdefghij")
				lit(t, x, keep, 0, 2+keep, "abcdefghij"[:2+keep])
				continue
			}
			write(t, x, "cdefghij", power)
			dark(t, x, 0, 2, 2+strokes)
			n := 2 + keep%(strokes+1)
			lit(t, x, keep, 0, n, "abcdefghij"[:n])
		}
	}
}

// TestP17_3_FuseAtAHold: nothing is fast by it.
func TestP17_3_FuseAtAHold(t *testing.T) {
	x := written(t, "abcde", 2, 1)
	fuse(t, x, 0, ok)
	hold(t, x, power)
	dark(t, x, 1, 2, 5)
	lit(t, x, 0, 1, 2, "b")
	fuse(t, x, 1, ok)
	write(t, x, "x", ok)
	hold(t, x, power)
	dark(t, x, 1, 2, 3)
	lit(t, x, 0, 1, 2, "b")
	fuse(t, x, 2, ok)
	write(t, x, "x", ok)
	hold(t, x, ok)
	holds(t, x, 1, 3, "bx")
	lit(t, x, 0, 1, 3, "bx")
}

// TestP17_3_FuseAtAShedOrABack: nothing is let go, and nothing is taken back.
func TestP17_3_FuseAtAShedOrABack(t *testing.T) {
	for p := 1; p <= 3; p++ {
		x := written(t, "abcde", 3, 1)
		fuse(t, x, 0, ok)
		shed(t, x, p, power)
		dark(t, x, 1, 3, 5)
		lit(t, x, 2, 1, 5, "bcde")
	}
	for p := 1; p <= 5; p++ {
		x := written(t, "abcde", 3, 1)
		fuse(t, x, 0, ok)
		back(t, x, p, power)
		dark(t, x, 1, 3, 5)
		lit(t, x, 2, 1, 5, "bcde")
	}
}

// TestP17_3_JustEnough: as many strokes as come are enough, and the power is on till one more is asked for.
func TestP17_3_JustEnough(t *testing.T) {
	for k := range 4 {
		x := made(t, 10)
		fuse(t, x, 6, ok)
		write(t, x, "abc", ok)
		hold(t, x, ok)
		shed(t, x, 1, ok)
		back(t, x, 2, ok)
		holds(t, x, 1, 2, "b")
		write(t, x, "", ok)
		if e := x.Write(nil); e != ok {
			t.Fatalf("Write of nil: %d", e)
		}
		holds(t, x, 1, 2, "b")
		switch k {
		case 0:
			write(t, x, "x", power)
		case 1:
			hold(t, x, power)
		case 2:
			shed(t, x, 1, power)
		default:
			back(t, x, 2, power)
		}
		dark(t, x, 1, 2, 2)
		lit(t, x, 0, 1, 2, "b")
	}
}

// TestP17_3_WhatSpendsNone: a Write of nothing, calls with an error, and those that ask for no power.
func TestP17_3_WhatSpendsNone(t *testing.T) {
	for strokes := range 3 {
		x := made(t, 6)
		write(t, x, "abcd", ok)
		hold(t, x, ok)
		shed(t, x, 2, ok)
		write(t, x, "e", ok)
		fuse(t, x, strokes, ok)
		for range 5 {
			write(t, x, "", ok)
			write(t, x, "uvwxyz", noRoom)
			write(t, x, "xyzu", noRoom)
			shed(t, x, 1, place)
			shed(t, x, 5, place)
			back(t, x, 1, place)
			back(t, x, 6, place)
			fuse(t, x, -1, arg)
			holds(t, x, 2, 4, "cde")
		}
		write(t, x, "fg"[:strokes], ok)
		holds(t, x, 2, 4, "cde"+"fg"[:strokes])
		hold(t, x, power)
		dark(t, x, 2, 4, 5+strokes)
	}
}

// TestP17_3_NoRoomAheadOfTheFuse: a Write that has no room does nothing, though its first bytes had room, and strokes.
func TestP17_3_NoRoomAheadOfTheFuse(t *testing.T) {
	for strokes := range 5 {
		x := made(t, 3)
		fuse(t, x, strokes, ok)
		write(t, x, "abcd", noRoom)
		holds(t, x, 0, 0, "")
		if strokes < 3 {
			write(t, x, "abc", power)
			dark(t, x, 0, 0, strokes)
			continue
		}
		write(t, x, "abc", ok)
		write(t, x, "abcd", noRoom)
		holds(t, x, 0, 0, "abc")
	}
}

// TestP17_3_FuseAgain: the last one counts, more and fewer strokes, and of a number below 0 the one ahead goes on.
func TestP17_3_FuseAgain(t *testing.T) {
	for first := range 6 {
		for burnt := range first + 1 {
			for second := range 6 {
				x := made(t, 20)
				fuse(t, x, first, ok)
				write(t, x, string(letters(0, burnt)), ok)
				fuse(t, x, second, ok)
				for _, n := range belows() {
					fuse(t, x, n, arg)
				}
				write(t, x, string(letters(0, 6)), power)
				dark(t, x, 0, 0, burnt+second)
			}
		}
	}
}

// TestP17_3_FuseOfNumbersFarOff: below 0 there is none, and great ones last.
func TestP17_3_FuseOfNumbersFarOff(t *testing.T) {
	x := made(t, 10)
	for _, n := range belows() {
		fuse(t, x, n, arg)
		write(t, x, "ab", ok)
		hold(t, x, ok)
		back(t, x, 0, ok)
	}
	for _, n := range aboves() {
		fuse(t, x, n, ok)
		for range 20 {
			write(t, x, "abcdefghij", ok)
			hold(t, x, ok)
			back(t, x, 0, ok)
		}
		holds(t, x, 0, 0, "")
	}
}

// TestP17_3_FuseWithThePowerOff: it is set, the power stays off, and no fuse is there behind the crash.
func TestP17_3_FuseWithThePowerOff(t *testing.T) {
	for _, n := range append(aboves(), 0, 1, 2) {
		x := made(t, 10)
		fuse(t, x, 1, ok)
		write(t, x, "abc", power)
		fuse(t, x, -1, arg)
		fuse(t, x, n, ok)
		dark(t, x, 0, 0, 1)
		write(t, x, "x", power)
		hold(t, x, power)
		dark(t, x, 0, 0, 1)
		lit(t, x, 1, 0, 1, "a")
		write(t, x, "bcdefghij", ok)
		hold(t, x, ok)
		holds(t, x, 0, 10, "abcdefghij")
	}
}

// TestP17_3_PowerOff: ErrPower of what asks for power, ahead of its other errors; Places and On tell what there is; nothing changes.
func TestP17_3_PowerOff(t *testing.T) {
	x := made(t, 6)
	write(t, x, "abcd", ok)
	hold(t, x, ok)
	shed(t, x, 1, ok)
	write(t, x, "ef", ok)
	fuse(t, x, 0, ok)
	hold(t, x, power)
	for range 3 {
		write(t, x, "", power)
		if e := x.Write(nil); e != power {
			t.Fatalf("Write of nil: %d", e)
		}
		write(t, x, "g", power)
		write(t, x, "gh", power)
		write(t, x, strings.Repeat("z", 100), power)
		hold(t, x, power)
		for _, p := range append(ends(), 0, 1, 2, 3, 4, 5, 6, 7) {
			shed(t, x, p, power)
			back(t, x, p, power)
		}
		dark(t, x, 1, 4, 6)
	}
	lit(t, x, 2, 1, 6, "bcdef")
}

// TestP17_3_PowerOffOfAnEmptyTape: though there is no room, and no place but 0.
func TestP17_3_PowerOffOfAnEmptyTape(t *testing.T) {
	x := made(t, 0)
	fuse(t, x, 0, ok)
	write(t, x, "", ok)
	write(t, x, "a", noRoom)
	shed(t, x, 1, place)
	back(t, x, 0, power)
	dark(t, x, 0, 0, 0)
	write(t, x, "a", power)
	write(t, x, "", power)
	shed(t, x, 0, power)
	shed(t, x, 1, power)
	lit(t, x, 5, 0, 0, "")
	write(t, x, "a", noRoom)
}

// TestP17_3_Crash: a keep of each number up to thrice as many as aren't fast, and of each number below 0 likewise, with the power on and off.
func TestP17_3_Crash(t *testing.T) {
	const s = "abcdefgh"
	for fast := range len(s) + 1 {
		loose := len(s) - fast
		for keep := -3 * (loose + 1); keep <= 3*(loose+1); keep++ {
			n := fast + keeps(keep, loose)
			x := written(t, s, fast, fast/2)
			lit(t, x, keep, fast/2, n, s[fast/2:n])
			x = written(t, s, fast, fast/2)
			fuse(t, x, 0, ok)
			hold(t, x, power)
			lit(t, x, keep, fast/2, n, s[fast/2:n])
		}
	}
}

// TestP17_3_CrashByHand: as a number without sign, modulo one more than aren't fast.
func TestP17_3_CrashByHand(t *testing.T) {
	for _, y := range []struct{ loose, keep, stay int }{
		{0, 0, 0}, {0, 1, 0}, {0, -1, 0}, {0, math.MaxInt, 0}, {0, math.MinInt, 0},
		{1, 0, 0}, {1, 1, 1}, {1, 2, 0}, {1, 3, 1}, {1, -1, 1}, {1, -2, 0}, {1, math.MaxInt, 1}, {1, math.MinInt, 0},
		{2, 0, 0}, {2, 2, 2}, {2, 3, 0}, {2, 4, 1}, {2, -1, 0}, {2, -2, 2}, {2, -3, 1}, {2, math.MaxInt, 1}, {2, math.MinInt, 2},
		{3, 3, 3}, {3, 4, 0}, {3, 6, 2}, {3, 7, 3}, {3, -1, 3}, {3, -4, 0}, {3, math.MaxInt, 3}, {3, math.MinInt, 0},
		{4, 4, 4}, {4, 5, 0}, {4, 8, 3}, {4, 1 << 32, 1}, {4, -1, 0}, {4, math.MaxInt, 2}, {4, math.MinInt, 3},
		{6, 6, 6}, {6, 7, 0}, {6, 12, 5}, {6, 1 << 32, 4}, {6, 1<<32 + 3, 0}, {6, -1, 1}, {6, math.MaxInt, 0}, {6, math.MinInt, 1},
		{9, 1 << 31, 8}, {9, 1 << 32, 6}, {9, 1 << 62, 4}, {9, -1, 5}, {9, -1 << 32, 0}, {9, math.MaxInt, 7}, {9, math.MinInt, 8},
		{16, -1, 0}, {16, 1 << 32, 1}, {16, 1 << 16, 1}, {16, math.MinInt, 9}, {16, math.MaxInt, 8},
	} {
		if n := keeps(y.keep, y.loose); n != y.stay {
			t.Fatalf("keep %d of %d: %d, not %d", y.keep, y.loose, n, y.stay)
		}
		for fast := range 3 {
			s := string(letters(4, fast+y.loose))
			x := written(t, s, fast, 0)
			lit(t, x, y.keep, 0, fast+y.stay, s[:fast+y.stay])
		}
	}
}

// TestP17_3_CrashOfNumbersFarOff: of each many that aren't fast.
func TestP17_3_CrashOfNumbersFarOff(t *testing.T) {
	for loose := range 40 {
		s := string(letters(loose, 3+loose))
		for _, keep := range append(ends(), 0, 1, loose, loose+1, 2*loose, 2*loose+1, 2*loose+2, -loose, -loose-1, -loose-2) {
			x := written(t, s, 3, 1)
			n := 3 + keeps(keep, loose)
			lit(t, x, keep, 1, n, s[1:n])
		}
	}
}

// TestP17_3_CrashAgain: what stayed is fast, so that another crash takes none of it.
func TestP17_3_CrashAgain(t *testing.T) {
	for keep := range 6 {
		for again := range 6 {
			x := written(t, "abcdefg", 2, 1)
			crash(t, x, keep, ok)
			holds(t, x, 1, 2+keep, "abcdefg"[1:2+keep])
			crash(t, x, again, ok)
			holds(t, x, 1, 2+keep, "abcdefg"[1:2+keep])
			shed(t, x, 2+keep, ok)
			crash(t, x, again, ok)
			holds(t, x, 2+keep, 2+keep, "")
		}
	}
}

// TestP17_3_CrashTakesTheFuse: a burning one, one with none left, one that took the power.
func TestP17_3_CrashTakesTheFuse(t *testing.T) {
	for strokes := range 6 {
		x := made(t, 10)
		fuse(t, x, strokes, ok)
		write(t, x, "abc"[:min(3, strokes)], ok)
		if strokes%2 == 0 {
			x.Write([]byte("defgh"))
		}
		crash(t, x, 0, ok)
		holds(t, x, 0, 0, "")
		write(t, x, "abcdefghij", ok)
		hold(t, x, ok)
		shed(t, x, 5, ok)
		back(t, x, 7, ok)
		holds(t, x, 5, 7, "fg")
		fuse(t, x, 0, ok)
		hold(t, x, power)
		lit(t, x, 1, 5, 7, "fg")
	}
}

// TestP17_3_WriteBehindACrash: bytes stand behind those that stayed, and places go on from there.
func TestP17_3_WriteBehindACrash(t *testing.T) {
	for keep := range 4 {
		x := written(t, "abcdef", 3, 2)
		crash(t, x, keep, ok)
		write(t, x, "xyz", ok)
		holds(t, x, 2, 3+keep, "abcdef"[2:3+keep]+"xyz")
		back(t, x, 6+keep, ok)
		back(t, x, 7+keep, place)
		crash(t, x, 2, ok)
		holds(t, x, 2, 5+keep, "abcdef"[2:3+keep]+"xy")
	}
}

// TestP17_3_Nil: of no tape ErrNil of all that tell an error, nothing, 0 and false.
func TestP17_3_Nil(t *testing.T) {
	var x *tape.Tape
	for range 2 {
		write(t, x, "", none)
		write(t, x, "abc", none)
		hold(t, x, none)
		for _, n := range append(ends(), 0, 1, 2) {
			shed(t, x, n, none)
			back(t, x, n, none)
			fuse(t, x, n, none)
			crash(t, x, n, none)
		}
		if n, b, e := x.Read(); n != 0 || len(b) != 0 || e != none {
			t.Errorf("Read: %d, %q, %d", n, b, e)
		}
		if x.On() {
			t.Errorf("the power of none is on")
		}
		places(t, x, 0, 0, 0)
	}
}

// TestP17_4_WhatIsFastStays: in drawn rows with fuses and crashes, what is fast is read behind each crash, and behind it a beginning of what was written there.
func TestP17_4_WhatIsFastStays(t *testing.T) {
	d := &dice{1704}
	for range 400 {
		x := made(t, 1+d.below(60))
		for range 30 {
			x.Fuse(d.below(80))
			// All that may stand from place 0 on: what is fast, and what was written behind it.
			first, fast, end := x.Places()
			all := append(make([]byte, first), read(t, x)...)
			for range d.below(12) {
				_, _, was := x.Places()
				b := letters(d.below(26), d.below(9))
				switch d.below(6) {
				case 0:
					x.Hold()
				case 1:
					x.Shed(first + d.below(end-first+2))
				case 2:
					x.Back(first + d.below(end-first+2))
				default:
					x.Write(b)
				}
				first, fast, end = x.Places()
				if end > was {
					all = append(all[:was:was], b[:end-was]...)
				}
				all = all[:end]
				if first > fast || fast > end {
					t.Fatalf("Places: %d, %d, %d", first, fast, end)
				}
			}
			crash(t, x, d.below(20)-5, ok)
			b := read(t, x)
			left, up, last := x.Places()
			if left != first || last < fast || last > end || up != last || !bytes.Equal(b, all[first:last]) {
				t.Fatalf("%q from %d to %d, fast %d, of %q with places %d, %d, %d", b, left, last, up, all, first, fast, end)
			}
		}
	}
}

// read: the bytes, as long as the power is on.
func read(t *testing.T, x *tape.Tape) []byte {
	t.Helper()
	first, b, e := x.Read()
	from, _, end := x.Places()
	if e != ok || first != from || len(b) != end-first {
		t.Fatalf("Read: %d, %q, %d; from %d to %d", first, b, e, from, end)
	}
	return b
}

// TestP17_AllShortRows: all rows of five steps, each one of twelve, of a tape with room for four, against the second reckoning.
func TestP17_AllShortRows(t *testing.T) {
	first := func(x *both) int { n, _, _ := x.tape.Places(); return n }
	end := func(x *both) int { _, _, n := x.tape.Places(); return n }
	steps := []func(*both){
		func(x *both) { x.write(t, "a") },
		func(x *both) { x.write(t, "bcd") },
		func(x *both) { x.write(t, "") },
		func(x *both) { x.hold(t) },
		func(x *both) { x.shed(t, first(x)+1) },
		func(x *both) { x.shed(t, end(x)) },
		func(x *both) { x.back(t, end(x)-1) },
		func(x *both) { x.back(t, first(x)) },
		func(x *both) { x.fuse(t, 0) },
		func(x *both) { x.fuse(t, 2) },
		func(x *both) { x.crash(t, 0) },
		func(x *both) { x.crash(t, 2) },
	}
	const long = 5
	all := 1
	for range long {
		all *= len(steps)
	}
	for code := range all {
		x := twins(t, 4)
		for range long {
			steps[code%len(steps)](x)
			code /= len(steps)
		}
		x.crash(t, 1)
	}
}

// TestP17_DrawnRows: long rows of drawn calls with crashes amid them, against the second reckoning.
func TestP17_DrawnRows(t *testing.T) {
	d := &dice{17}
	for range 250 {
		x := twins(t, d.below(50))
		burns := 2 + d.below(60)
		for range 300 {
			first, fast, end := x.tape.Places()
			switch k := d.below(100); {
			case k < 40:
				x.write(t, string(letters(d.below(26), d.below(10))))
			case k < 52:
				x.hold(t)
			case k < 65:
				x.shed(t, first-1+d.below(fast-first+3))
			case k < 78:
				x.back(t, first-1+d.below(end-first+3))
			case k < 90:
				x.fuse(t, d.below(burns)-1)
			default:
				x.crash(t, d.below(2*(end-fast)+3)-d.below(4))
			}
		}
	}
}

// TestR1_AllCallsEnd: of all numbers and of bytes at all calls, in all states.
func TestR1_AllCallsEnd(t *testing.T) {
	all := append(ends(), 0, 1, 2, 3, 4, 5, 255, 256)
	b := letters(0, 300)
	for _, room := range append(all, 1<<24) {
		x, e := tape.New(room)
		if (x == nil) != (e != ok) {
			t.Fatalf("New(%d): %v, %d", room, x, e)
		}
		for _, n := range all {
			for _, m := range all {
				x.Write(b[:min(max(n, 0), 300)])
				x.Fuse(m)
				x.Shed(n)
				x.Write(nil)
				x.Back(m)
				x.Hold()
				x.Read()
				x.Places()
				x.On()
				x.Crash(n)
				x.Write(b[:min(max(m, 0), 300)])
				x.Hold()
				x.Shed(m)
				x.Back(n)
				x.Crash(m)
			}
		}
	}
}

// TestR2_NothingChangesWithAnError: neither what it holds, nor the places, nor the fuse, with the power on and off.
func TestR2_NothingChangesWithAnError(t *testing.T) {
	for strokes := range 4 {
		x := made(t, 7)
		write(t, x, "abcd", ok)
		hold(t, x, ok)
		shed(t, x, 1, ok)
		write(t, x, "ef", ok)
		fuse(t, x, strokes, ok)
		wrong := func() {
			write(t, x, "xyz", noRoom)
			write(t, x, strings.Repeat("xyz", 50), noRoom)
			for _, n := range append(ends(), 0, 7, 8) {
				shed(t, x, n, place)
				back(t, x, n, place)
			}
			shed(t, x, 5, place)
			shed(t, x, 6, place)
			for _, n := range belows() {
				fuse(t, x, n, arg)
			}
		}
		for range strokes {
			wrong()
			holds(t, x, 1, 4, "bcdef")
			back(t, x, 6, ok)
		}
		wrong()
		holds(t, x, 1, 4, "bcdef")
		back(t, x, 6, power)
		dark(t, x, 1, 4, 6)
		for _, n := range belows() {
			fuse(t, x, n, arg)
		}
		dark(t, x, 1, 4, 6)
		lit(t, x, 1, 1, 5, "bcde")
	}
}

// TestR4_HandedInStays: as it is, behind its end too; and what the caller does with it later changes no tape.
func TestR4_HandedInStays(t *testing.T) {
	for many := range 20 {
		for room := range 30 {
			memory := letters(0, 40)
			b := memory[3 : 3+many]
			x := made(t, room)
			e := x.Write(b)
			x.Hold()
			x.Write(memory[:5:6])
			x.Write([]byte("WXYZ"))
			x.Back(2)
			x.Write([]byte("UV"))
			x.Shed(1)
			x.Write([]byte("QRST"))
			if !bytes.Equal(memory, letters(0, 40)) {
				t.Fatalf("%d bytes, room %d: %q", many, room, memory)
			}
			first, was, _ := x.Read()
			for i := range memory {
				memory[i] = '-'
			}
			if n, c, _ := x.Read(); e == ok && (n != first || !bytes.Equal(c, was) || bytes.ContainsRune(c, '-')) {
				t.Fatalf("%d bytes, room %d: %q, not %q", many, room, c, was)
			}
		}
	}
}

// TestR4_ToldIsTheCallers: what a caller does with what it was told, behind its end too, changes neither the tape nor another answer.
func TestR4_ToldIsTheCallers(t *testing.T) {
	for many := range 40 {
		s := string(letters(0, many))
		x := made(t, 100)
		for i := range many {
			write(t, x, s[i:i+1], ok)
		}
		hold(t, x, ok)
		for first := range many + 1 {
			shed(t, x, first, ok)
			_, a, _ := x.Read()
			_, b, _ := x.Read()
			a = a[:cap(a)]
			for i := range a {
				a[i] = '-'
			}
			if string(b) != s[first:] {
				t.Fatalf("of %d: %q, not %q", many, b, s[first:])
			}
			b = append(b, "more"...)
			b[0] = '+'
			holds(t, x, first, many, s[first:])
			write(t, x, "zz", ok)
			holds(t, x, first, many, s[first:]+"zz")
			back(t, x, many, ok)
		}
	}
}

// TestR4_WhatWasToldStays: whatever is done with the tape behind it.
func TestR4_WhatWasToldStays(t *testing.T) {
	x := written(t, "abcdefgh", 5, 1)
	_, a, _ := x.Read()
	back(t, x, 3, ok)
	write(t, x, "uvwxyz", ok)
	_, b, _ := x.Read()
	shed(t, x, 3, ok)
	crash(t, x, 2, ok)
	write(t, x, "0123456789", ok)
	hold(t, x, ok)
	_, c, _ := x.Read()
	back(t, x, 3, ok)
	write(t, x, "-----------------", ok)
	if string(a) != "bcdefgh" || string(b) != "bcuvwxyz" || string(c) != "uv0123456789" {
		t.Errorf("Read: %q, %q, %q", a, b, c)
	}
	holds(t, x, 3, 3, "-----------------")
}

// TestR4_OfItself: a tape takes what it told, and what another one told.
func TestR4_OfItself(t *testing.T) {
	x, y := written(t, "abc", 1, 0), made(t, 20)
	for range 2 {
		_, b, _ := x.Read()
		write(t, x, string(b), ok)
		if e := y.Write(b); e != ok {
			t.Fatalf("Write: %d", e)
		}
	}
	holds(t, x, 0, 1, "abcabcabcabc")
	holds(t, y, 0, 0, "abcabcabc")
	back(t, x, 0, ok)
	write(t, x, "xyzxyzxyz", ok)
	holds(t, y, 0, 0, "abcabcabc")
}

// TestR6_SideBySide: two tapes count for nothing with each other.
func TestR6_SideBySide(t *testing.T) {
	x, y := made(t, 3), made(t, 5)
	write(t, x, "abc", ok)
	holds(t, y, 0, 0, "")
	write(t, y, "uvwxy", ok)
	hold(t, x, ok)
	holds(t, y, 0, 0, "uvwxy")
	shed(t, x, 2, ok)
	shed(t, y, 1, place)
	fuse(t, x, 0, ok)
	hold(t, y, ok)
	holds(t, y, 0, 5, "uvwxy")
	hold(t, x, power)
	dark(t, x, 2, 3, 3)
	back(t, y, 4, ok)
	fuse(t, y, 1, ok)
	crash(t, x, 1, ok)
	write(t, x, "de", ok)
	hold(t, x, ok)
	write(t, y, "z", ok)
	crash(t, x, 0, ok)
	holds(t, x, 2, 5, "cde")
	holds(t, y, 0, 4, "uvwxz")
	hold(t, y, power)
	holds(t, x, 2, 5, "cde")
	lit(t, y, 0, 0, 4, "uvwx")
}

// TestR6_TheSameAgain: the same calls tell the same, whenever they are made.
func TestR6_TheSameAgain(t *testing.T) {
	first := ""
	for range 3 {
		s := calls(made(t, 64), &dice{176}, 600)
		if first == "" {
			first = s
		}
		if s != first {
			t.Fatalf("%s, not %s", s, first)
		}
	}
}
