package field

import (
	"bytes"
	"fmt"
	"math"
	"slices"
	"testing"

	"stillage/api"
	"stillage/tele"
)

func TestP22_1_TheExample(t *testing.T) {
	d := newDouble(t, example(), 3, [2]int{5, 1})
	d.does(order(7, 2, 5), act(Tick))
	d.lines(1, 0)
	d.told(1, 5, 0)
	d.does(act(Down))
	d.lines(0, 1)
	d.at(5, 1, 0)
	d.does(act(Up))
	d.lines(0, 0)
	d.at(5, 0, 0)
	d.path(5, 2)
	d.does(acts(Tick, Down, Up)...)
	d.at(5, 2, 2)
	d.states(7, 1)
	d.does(act(Tick))
	d.states(7, 2)
	d.served(2, 7)
	d.moves(2)
	d.lines(0, 0)
}

func TestP22_1_ALostMoveIsToldAgain(t *testing.T) {
	for _, pause := range []int{1, 2, 3, 7, 1000} {
		d := newDouble(t, example(), pause, [2]int{5, 1})
		d.does(order(7, 2, 5), act(Tick), act(LoseDown))
		for range pause - 1 {
			d.does(acts(Tick, Down, Up)...)
			d.lines(0, 0)
			d.at(5, 1, 1)
		}
		d.does(act(Tick))
		d.lines(1, 0)
		d.moves(0)
		d.does(acts(Down, Up, Tick, Down, Up, Tick)...)
		d.states(7, 2)
		d.moves(2)
	}
}

func noLayouts() []api.Layout {
	of := func(change func(l *api.Layout)) api.Layout {
		l := star()
		change(&l)
		return l
	}
	return []api.Layout{
		{}, {Edges: [][2]int{{0, 1}}},
		of(func(l *api.Layout) { l.Nodes[2].Name = "" }), of(func(l *api.Layout) { l.Nodes[2].Name = "t0" }),
		of(func(l *api.Layout) { l.Nodes[5].Kind = 5 }), of(func(l *api.Layout) { l.Nodes[1].Zone = 8 }),
		of(func(l *api.Layout) { l.Nodes[0].Kind = api.NSlot }), of(func(l *api.Layout) { l.Edges[3][1] = 6 }),
		of(func(l *api.Layout) { l.Edges[3] = l.Edges[1] }), of(func(l *api.Layout) { l.Edges[3] = [2]int{0, 0} }),
		of(func(l *api.Layout) { l.Edges[7] = [2]int{math.MinInt, math.MaxInt} }),
		of(func(l *api.Layout) { l.Nodes = slices.Repeat(l.Nodes, 7) }),
	}
}

func refuses(t *testing.T, want api.Errno, l api.Layout, pause int, totes ...[2]int) {
	t.Helper()
	if f, e := New(l, pause, totes); f != nil || e != want {
		t.Fatalf("New of %v, %d, %v: %v, %d, want %d", l, pause, totes, f, e, want)
	}
}

func TestP22_1_NewOfWhatIsNoLayout(t *testing.T) {
	for _, l := range noLayouts() {
		refuses(t, api.ErrPart, l, 3)
		refuses(t, api.ErrPart, l, 0, [2]int{0, -1})
		refuses(t, api.ErrPart, l, math.MaxInt, [2]int{5, 1}, [2]int{5, 1})
	}
}

func TestP22_1_NewOfAPauseOutside(t *testing.T) {
	for _, pause := range []int{math.MinInt, -1, 0, 1001, 1 << 32, math.MaxInt} {
		refuses(t, api.ErrRange, star(), pause)
		refuses(t, api.ErrRange, star(), pause, [2]int{5, 1}, [2]int{5, 1})
		refuses(t, api.ErrRange, star(), pause, [2]int{5, 1}, [2]int{6, 1})
	}
	for _, pause := range []int{1, 2, 1000} {
		newDouble(t, star(), pause, [2]int{5, 1})
	}
}

func TestP22_1_NewOfTotes(t *testing.T) {
	l := star()
	good := [][2]int{{5, 1}, {30, 0}, {1, 4}}
	for _, c := range []struct {
		want api.Errno
		more [][2]int
	}{
		{api.ErrRange, [][2]int{{0, 2}}}, {api.ErrRange, [][2]int{{31, 2}}}, {api.ErrRange, [][2]int{{-1, 2}}}, {api.ErrRange, [][2]int{{math.MinInt, 2}}},
		{api.ErrRange, [][2]int{{math.MaxInt, 2}}}, {api.ErrRange, [][2]int{{6, -1}}}, {api.ErrRange, [][2]int{{6, 6}}}, {api.ErrRange, [][2]int{{6, math.MaxInt}}},
		{api.ErrRange, [][2]int{{6, math.MinInt}}}, {api.ErrRange, [][2]int{{5, 6}}}, {api.ErrRange, [][2]int{{31, 1}}},
		{api.ErrTwice, [][2]int{{5, 2}}}, {api.ErrTwice, [][2]int{{5, 1}}}, {api.ErrTwice, [][2]int{{30, 1}}},
		{api.ErrHeld, [][2]int{{6, 1}}}, {api.ErrHeld, [][2]int{{6, 0}}}, {api.ErrHeld, [][2]int{{6, 4}}},
		{api.ErrHeld, [][2]int{{6, 1}, {5, 2}}}, {api.ErrTwice, [][2]int{{5, 2}, {6, 1}}}, {api.ErrRange, [][2]int{{0, 2}, {5, 2}, {6, 1}}},
		{api.ErrHeld, [][2]int{{7, 2}, {6, 2}, {0, 0}}},
	} {
		refuses(t, c.want, l, 3, append(slices.Clone(good), c.more...)...)
	}
	d := newDouble(t, l, 3, good...)
	d.at(5, 1, 1)
	d.at(30, 0, 0)
	d.at(1, 4, 4)
	d.at(6, -1, -1)
	d.at(0, -1, -1)
	d.at(31, -1, -1)
	d.moves(0)
	d.lines(0, 0)
	newDouble(t, l, 3)
	var all [][2]int
	for tote := 1; tote <= 30; tote++ {
		all = append(all, [2]int{tote, 40 - tote})
	}
	newDouble(t, wide(), 3, all...)
	refuses(t, api.ErrTwice, wide(), 3, append(all, [2]int{30, 0})...)
}

func TestP22_1_AKindThatIsNone(t *testing.T) {
	d := newDouble(t, star(), 2, [2]int{5, 1}, [2]int{6, 2})
	d.does(order(1, 4, 5), act(Tick), act(TwiceDown), act(Down), act(TwiceUp))
	d.does(order(2, 5, 6))
	for _, dead := range []bool{false, true} {
		if dead {
			d.does(act(Arm, 0))
			d.fails(api.ErrDead, act(Cancel, 1))
		}
		for _, kind := range []int{0, -1, 15, 16, 99, 1 << 8, 1<<8 + 1, 1<<32 + 1, 1<<32 + 14, 1 << 62, math.MinInt, math.MinInt + 1, math.MaxInt} {
			d.idle(api.OK, Act{Kind: kind, N: 1, Request: api.Request{ID: 3, Station: 4, Tote: 6}, Data: []byte{1}})
		}
	}
}

// TestP22_1_AFullLineDown: what a tick tells is lost, from the first on that has no room, and so is what comes twice.
func TestP22_1_AFullLineDown(t *testing.T) {
	d := newDouble(t, single(), 1, [2]int{5, 0})
	d.does(order(1, 2, 5))
	for i := range 64 {
		d.does(act(Tick))
		d.lines(i+1, 0)
	}
	d.does(many(3, act(Tick))...)
	d.lines(64, 0)
	for _, n := range numbers(64) {
		d.idle(api.OK, act(TwiceDown, n))
	}
	d.does(act(LoseDown))
	d.lines(63, 0)
	d.does(act(TwiceDown))
	d.lines(64, 0)
	d.does(act(LoseDown), act(Tick), act(Tick))
	d.lines(64, 0)
	d.does(act(Down, 63))
	d.lines(63, 1)
	d.at(5, 0, 1)
	for range 63 {
		d.does(act(Down))
	}
	d.lines(0, 64)
	d.moves(1)

	d = newDouble(t, apart(), 1, [2]int{5, 1}, [2]int{6, 4}, [2]int{7, 7})
	d.does(order(1, 2, 5))
	d.does(many(62, act(Tick))...)
	d.does(order(2, 5, 6), order(3, 8, 7), act(Tick)) // the third telegram has no room
	d.lines(64, 0)
	d.told(9, 7, 0)
	d.does(act(Down, 63), act(Down, 62))
	d.at(5, 1, 0)
	d.at(6, 4, 3)
	d.at(7, 7, 7)
	for range 62 {
		d.does(act(Down))
	}
	d.at(7, 7, 7)
	d.does(act(Tick), act(Down, 2))
	d.at(7, 7, 6)
}

// TestP22_1_AFullLineUp: what the plant answers and tells is lost, but done; so is what comes twice.
func TestP22_1_AFullLineUp(t *testing.T) {
	d := newDouble(t, single(), 1, [2]int{5, 0})
	d.does(order(1, 2, 5))
	d.does(many(64, act(Break, 3))...)
	d.lines(0, 64)
	d.does(act(Tick), act(Tick), act(Down))
	d.lines(1, 64)
	d.at(5, 0, 1)
	d.idle(api.OK, act(Break, 3))
	for _, n := range numbers(64) {
		d.idle(api.OK, act(TwiceUp, n))
	}
	d.does(act(Break, 0))
	d.does(act(LoseUp))
	d.lines(1, 63)
	d.does(act(Down)) // the device 1 is out of order by now, though nobody heard of it
	d.lines(0, 63)
	d.does(act(TwiceUp))
	d.lines(0, 64)
	d.does(act(Mend, 0), act(Tick), act(Down))
	d.lines(0, 64)
	d.does(act(LoseUp, 5), act(Tick), act(Down))
	d.lines(0, 64)
	d.does(act(Up, 63))
	d.at(5, 1, 1)
	d.moves(1)
	d.does(act(Up))
	d.fails(api.ErrFar, many(62, act(Up))...)
	d.lines(0, 0)
}

// numbers are some about the edges that a list of this length has.
func numbers(length int) []int {
	return []int{0, 1, -1, -2, length - 1, length, length + 1, -length, -length - 1, 2*length + 3, 1 << 31, -1 << 31, 1<<32 - 1, 1 << 32, 1<<62 + 5,
		math.MaxInt, math.MaxInt - 1, math.MinInt, math.MinInt + 1, math.MinInt + 7}
}

// TestP22_1_PlacesInALine: of lines of all lengths, whose telegrams are told from one another by their numbers.
func TestP22_1_PlacesInALine(t *testing.T) {
	l := wide()
	for length := 1; length <= 64; length++ {
		for _, n := range numbers(length) {
			at := modulo(n, length)
			for _, kind := range []int{LoseUp, TwiceUp, Up} {
				d := newDouble(t, l, 3)
				for i := range length {
					d.f.Do(act(Break, i))
					d.w.do(act(Break, i))
				}
				was := slices.Clone(d.f.up)
				d.does(act(kind, n))
				want := slices.Delete(slices.Clone(was), at, at+1)
				if kind == TwiceUp {
					want = append(slices.Clone(was), was[at])[:min(64, length+1)]
				}
				if !slices.EqualFunc(d.f.up, want, bytes.Equal) {
					t.Fatalf("act %d of %d in a line with %d: %v", kind, n, length, d.f.up)
				}
				if down := d.f.control.Down(); kind == Up && !slices.Equal(down, []int{at + 1}) {
					t.Fatalf("Up of %d in a line with %d: it heard of %v", n, length, down)
				}
			}
		}
	}
}

// TestP22_1_PlacesInTheLineDown: three telegrams to three devices.
func TestP22_1_PlacesInTheLineDown(t *testing.T) {
	for _, n := range numbers(3) {
		at := modulo(n, 3)
		for _, kind := range []int{Down, LoseDown, TwiceDown} {
			d := newDouble(t, apart(), 9, [2]int{5, 1}, [2]int{6, 4}, [2]int{7, 7})
			d.does(order(3, 8, 7), order(2, 5, 6), order(1, 2, 5), act(Tick), act(kind, n))
			for i, tote := range []int{5, 6, 7} {
				moved := kind == Down && i == at
				if d.f.Real(tote) != 1+3*i && !moved || moved && d.f.Real(tote) != 3*i {
					t.Fatalf("act %d of %d: the tote %d is at %d", kind, n, tote, d.f.Real(tote))
				}
			}
			d.does(many(2, act(Down))...)
			switch kind {
			case TwiceDown:
				d.lines(2, 2)
				d.does(act(Down), act(Down))
				d.moves(3)
				d.lines(0, 4)
			case LoseDown:
				d.lines(0, 2)
				d.moves(2)
				if d.f.Real(5+at) != 1+3*at {
					t.Fatalf("LoseDown of %d: another one", n)
				}
			default:
				d.lines(0, 3)
				d.moves(3)
			}
		}
	}
}

func TestP22_1_EmptyLines(t *testing.T) {
	for _, n := range numbers(1) {
		d := newDouble(t, star(), 5, [2]int{5, 1})
		for _, kind := range []int{Down, Up, LoseDown, LoseUp, TwiceDown, TwiceUp} {
			d.idle(api.OK, act(kind, n))
		}
		d.does(order(1, 4, 5), act(Tick))
		for _, kind := range []int{Up, LoseUp, TwiceUp} {
			d.idle(api.OK, act(kind, n))
		}
		d.does(act(Down))
		for _, kind := range []int{Down, LoseDown, TwiceDown} {
			d.idle(api.OK, act(kind, n))
		}
		d.does(act(Up), act(Arm, 0))
		d.fails(api.ErrDead, act(Tick))
		for _, kind := range []int{Down, Up, LoseDown, LoseUp, TwiceDown, TwiceUp} {
			d.idle(api.OK, act(kind, n))
		}
	}
}

// TestP22_1_OfALineGoesJustOne: what a line has keeps its order.
func TestP22_1_OfALineGoesJustOne(t *testing.T) {
	d := newDouble(t, wide(), 5)
	for i := range 10 {
		d.does(act(Break, i))
	}
	d.does(act(LoseUp, 3), act(TwiceUp, 0), act(TwiceUp, 8), act(LoseUp, 0))
	var devices []int
	for _, b := range d.f.up {
		x, _ := tele.Decode(b)
		devices = append(devices, int(x.Dev))
	}
	if !slices.Equal(devices, []int{2, 3, 5, 6, 7, 8, 9, 10, 1, 10}) {
		t.Fatalf("in the line are telegrams of %v", devices)
	}
}

func TestP22_1_BreakAndMend(t *testing.T) {
	for _, l := range layouts() {
		devices := len(l.Edges)
		if devices == 0 {
			continue
		}
		for _, n := range numbers(devices) {
			d := newDouble(t, l, 3)
			dev := 1 + modulo(n, devices)
			heard := func(want ...int) {
				t.Helper()
				if got := d.f.control.Down(); !slices.Equal(got, want) {
					t.Fatalf("device %d of %d: %v are down, want %v", n, devices, got, want)
				}
			}
			works := func(want bool) {
				t.Helper()
				for other := 1; other <= devices; other++ {
					if d.f.plant.Works(other) != (want || other != dev) {
						t.Fatalf("device %d of %d: the device %d works: %v", n, devices, other, !want)
					}
				}
			}
			d.does(act(Mend, n)) // it is in order, and says so
			works(true)
			d.fails(api.ErrFar, act(Up))
			d.does(act(Break, n))
			d.lines(0, 1)
			works(false)
			heard()
			d.does(act(Up))
			heard(dev)
			d.does(act(Break, n)) // it is out of order already, and says so again
			works(false)
			d.fails(api.ErrFar, act(Up))
			heard(dev)
			d.does(act(Mend, n))
			works(true)
			heard(dev)
			d.does(act(Up))
			heard()
		}
	}
}

func TestP22_1_BreakAndMendWithoutEdges(t *testing.T) {
	for _, l := range []api.Layout{store("p0", ""), store("s0 s1 t0", ""), store("s0", "")} {
		d := newDouble(t, l, 3, [2]int{5, 0})
		for _, n := range numbers(1) {
			d.idle(api.OK, act(Break, n), act(Mend, n))
		}
	}
}

// TestP22_1_ADeviceOutOfOrder hears nothing; in order again, it does what it is told then.
func TestP22_1_ADeviceOutOfOrder(t *testing.T) {
	d := newDouble(t, example(), 2, [2]int{5, 1})
	d.does(order(7, 2, 5), act(Tick), act(TwiceDown), act(Break, 0), act(Down))
	d.lines(1, 1)
	d.at(5, 1, 1)
	d.does(act(Mend, -2), act(Down)) // 2^64 - 2 modulo 2
	d.lines(0, 3)
	d.at(5, 1, 0)
	d.does(act(Up), act(Up), act(Up))
	d.at(5, 0, 0)
	d.does(act(Break, 1), act(Up), act(Tick)) // now it knows, and tells it nothing
	d.lines(0, 0)
	d.does(act(Mend, 1), act(Up), act(Tick), act(Down), act(Up), act(Tick))
	d.states(7, 2)
}

func TestP22_1_Order(t *testing.T) {
	l := store("t0 s0 p0 g0 p1", "s0=t0 t0=p0 g0>t0")
	d := newDouble(t, l, 3, [2]int{5, 1}, [2]int{6, 3})
	for _, id := range []int{-1, math.MinInt, 1 << 31, math.MaxInt} {
		d.idle(api.ErrRange, order(id, 2, 5), order(id, 99, 99))
	}
	for _, station := range []int{-1, 0, 1, 3, 5, 40, math.MinInt, math.MaxInt} {
		d.idle(api.ErrRange, order(1, station, 5), order(1, station, 0))
	}
	for _, tote := range []int{0, -1, 1, 7, 30, 31, math.MinInt, math.MaxInt} {
		d.idle(api.ErrTote, order(1, 2, tote), order(1, 4, tote))
	}
	d.idle(api.ErrTarget, order(1, 4, 5))
	d.does(order(1, 2, 5))
	d.idle(api.OK, order(1, 2, 5)) // it is known already
	d.idle(api.ErrTwice, order(1, 2, 6), order(1, 4, 5), order(1, 0, 5))
	d.idle(api.ErrRange, order(1, -1, 5), order(1, 40, 5), order(1, 2, 0), order(1, 2, 31))
	d.idle(api.ErrTote, order(2, 2, 5))
	d.does(order(1<<31-1, 2, 6))
	d.idle(api.ErrTote, order(0, 2, 6))
	if got := d.f.Requests(); !slices.Equal(got, []api.Request{{ID: 1, Station: 2, Tote: 5}, {ID: 1<<31 - 1, Station: 2, Tote: 6}}) {
		t.Fatalf("open are %v", got)
	}
}

func TestP22_1_Cancel(t *testing.T) {
	d := newDouble(t, example(), 3, [2]int{5, 1})
	for _, id := range ids() {
		d.idle(api.ErrNone, act(Cancel, id))
	}
	d.does(order(7, 2, 5), act(Cancel, 7))
	d.states(7, 3)
	d.idle(api.OK, act(Cancel, 7)) // it is cancelled already
	d.does(order(8, 2, 5))
	d.settles(20, 3, api.OK)
	d.served(2, 8)
	d.idle(api.ErrState, act(Cancel, 8))
	d.idle(api.ErrNone, act(Cancel, 9), act(Cancel, -8))
}

// noTelegrams are bytes by the error with which they are heard.
func noTelegrams() map[api.Errno][][]byte {
	good := bytesOf(api.Tele{Kind: api.TDone, Dev: 1, A: 5})
	with := func(at int, b byte) []byte {
		l := slices.Clone(good)
		l[at] = b
		return l
	}
	summed := func(kind, dev, seq, a, b byte) []byte {
		l := []byte{0xA5, kind, 0, dev, 0, seq, 0, a, 0, b}
		s := sumOf(l)
		return append(l, byte(s>>8), byte(s))
	}
	return map[api.Errno][][]byte{
		api.ErrLength: {nil, {}, {1}, {0xA5}, good[:11], append(slices.Clone(good), 0), append(slices.Clone(good), good...)},
		api.ErrMark:   {with(0, 0), with(0, 0xA4), make([]byte, 12)},
		api.ErrSum:    {with(1, 3), with(3, 2), with(5, 1), with(7, 6), with(10, good[10]+1), with(11, good[11]+1)},
		api.ErrKind:   {summed(0, 1, 0, 5, 0), summed(8, 1, 0, 5, 0), summed(9, 0, 0, 0, 0), summed(255, 201, 0, 5, 0)},
		api.ErrField: {
			summed(2, 0, 0, 5, 0), summed(2, 201, 0, 5, 0), summed(2, 1, 0, 0, 0), summed(2, 1, 0, 31, 0), summed(2, 1, 0, 5, 1),
			summed(3, 1, 0, 5, 0), summed(3, 1, 0, 5, 4), summed(4, 1, 1, 0, 0), summed(5, 1, 0, 1, 0), summed(7, 1, 0, 0, 31),
		},
	}
}

// sumOf is the sum of bytes, bit by bit (chapter 1).
func sumOf(b []byte) uint16 {
	s := uint16(0xFFFF)
	for _, one := range b {
		s ^= uint16(one) << 8
		for range 8 {
			top := s & 0x8000
			if s <<= 1; top != 0 {
				s ^= 0x1021
			}
		}
	}
	return s
}

// telegrams are some of all Kinds; most of them would be heard, if they came from the line up.
func telegrams() []api.Tele {
	return []api.Tele{
		{Kind: api.TMove, Dev: 1, A: 5}, {Kind: api.TDone, Dev: 1, A: 5}, {Kind: api.TDone, Dev: 1, Seq: 1, A: 5}, {Kind: api.TDone, Dev: 200, A: 5},
		{Kind: api.TRefused, Dev: 1, A: 5, B: 1}, {Kind: api.TFault, Dev: 1}, {Kind: api.TFault, Dev: 200}, {Kind: api.TRepair, Dev: 1}, {Kind: api.TRepair, Dev: 2},
		{Kind: api.TAsk, Dev: 1}, {Kind: api.TState, Dev: 1},
	}
}

func TestP22_1_Noise(t *testing.T) {
	d := newDouble(t, example(), 3, [2]int{5, 1})
	d.does(order(7, 2, 5), act(Tick), act(Break, 1), act(Up))
	for _, dead := range []bool{false, true} {
		if dead {
			d.does(act(Arm, 0))
			d.fails(api.ErrDead, act(Cancel, 7))
		}
		for e, all := range noTelegrams() {
			if dead {
				e = api.ErrDead
			}
			for _, b := range all {
				d.idle(e, noise(b))
			}
		}
		for _, x := range telegrams() {
			d.idle(api.OK, noise(bytesOf(x)))
		}
	}
}

func TestP22_1_Arm(t *testing.T) {
	d := newDouble(t, example(), 3, [2]int{5, 1})
	for _, n := range []int{-1, math.MinInt, 1<<40 + 1, math.MaxInt} {
		d.idle(api.ErrRange, act(Arm, n))
	}
	d.idle(api.OK, act(Arm, 0), act(Arm, 1<<40), act(Arm, 3)) // the last one counts
	d.fails(api.ErrDead, order(7, 2, 5))
	for _, n := range []int{-1, 0, 1, math.MaxInt} {
		d.idle(api.ErrDead, act(Arm, n))
	}
	d.does(act(Crash))
	d.idle(api.OK, act(Arm, 5))
	d.does(act(Crash)) // by which the budget goes, too
	d.does(order(7, 2, 5), act(Tick), act(Down), act(Up), act(Tick), act(Down), act(Up), act(Tick))
	d.states(7, 2)
}

// TestP22_1_ArmAtAnyByte: then one act that notes something, and Crash: it is there, or it isn't.
func TestP22_1_ArmAtAnyByte(t *testing.T) {
	for _, c := range []struct {
		name  string
		ahead []Act
		does  Act
	}{
		{"an order", nil, order(7, 2, 5)},
		{"a cancelled one", []Act{order(7, 2, 5)}, act(Cancel, 7)},
		{"a tick that tells", []Act{order(7, 2, 5)}, act(Tick)},
		{"a tick that serves", append([]Act{order(7, 2, 5)}, acts(Tick, Down, Up, Tick, Down, Up)...), act(Tick)},
		{"a move that is heard", append([]Act{order(7, 2, 5)}, acts(Tick, Down)...), act(Up)},
		{"a fault that is heard", []Act{act(Break, 1)}, act(Up)},
		{"a repair that is heard", []Act{act(Break, 1), act(Up), act(Mend, 1)}, act(Up)},
	} {
		whole := 0
		for units := 0; whole == 0; units++ {
			d := newDouble(t, example(), 3, [2]int{5, 1})
			d.does(c.ahead...)
			was, size := keptBy(d.f), d.f.tape.Size()
			_, wasUp := d.f.Lines()
			d.does(act(Arm, units))
			if e := d.do(c.does); e == api.OK {
				whole = units
			} else if e != api.ErrDead || !d.f.Dead() || d.f.tape.Size() != size+units {
				t.Fatalf("%s, %d units: %d, dead: %v, %d bytes, were %d", c.name, units, e, d.f.Dead(), d.f.tape.Size(), size)
			}
			if a, b := d.f.Lines(); whole == 0 && (a != 0 || c.does.Kind == Up && b != wasUp-1) {
				t.Fatalf("%s, %d units: %d telegrams down, %d up", c.name, units, a, b)
			}
			now := keptBy(d.f)
			d.does(act(Crash))
			if got := keptBy(d.f); d.f.Dead() || whole == 0 && got != was || whole > 0 && (got == was || got != now) {
				t.Fatalf("%s, %d units: opened%s, was%s, then%s", c.name, units, got, was, now)
			}
		}
		if whole < 5 {
			t.Errorf("%s is whole with %d units", c.name, whole)
		}
	}
}

// TestP22_1_ADeadOne: what is the plant's and the lines' goes on.
func TestP22_1_ADeadOne(t *testing.T) {
	d := newDouble(t, star(), 2, [2]int{5, 1}, [2]int{6, 2})
	d.does(order(1, 4, 5), act(Tick), act(TwiceDown), act(TwiceDown), act(Arm, 0))
	d.fails(api.ErrDead, order(2, 5, 6))
	d.idle(api.ErrDead, act(Tick), order(1, 4, 5), order(-1, 4, 5), act(Cancel, 1), act(Cancel, 99), act(Arm), act(Arm, -1), noise([]byte{1}))
	d.does(act(Down))
	d.lines(2, 1)
	d.moves(1)
	d.does(act(TwiceUp), act(LoseDown))
	d.lines(1, 2)
	d.fails(api.ErrDead, act(Up)) // it goes, though nobody hears it
	d.lines(1, 1)
	d.does(act(Break, 4), act(Mend, 4), act(LoseUp, 1))
	d.lines(1, 2)
	d.does(act(Crash))
	d.lines(1, 2)
	d.at(5, 1, 0)
	d.does(act(Up))
	d.at(5, 0, 0)
	d.fails(api.ErrFar, act(Up))
	d.does(act(Down))
	d.moves(1)
}

func TestP22_1_Crash(t *testing.T) {
	d := newDouble(t, star(), 3, [2]int{5, 1}, [2]int{6, 2})
	d.does(order(1, 4, 5), order(2, 5, 6), act(Tick), act(Down), act(TwiceUp))
	d.lines(0, 2)
	d.path(5, 1, 8)
	d.does(act(Break, 6), act(Up, 2), act(Crash))
	d.lines(0, 2)
	d.path(5) // without jobs
	d.told(1, 5, 0)
	was := lookAt(d.f)
	for range 3 {
		d.does(act(Crash))
		if now := lookAt(d.f); now != was {
			t.Fatalf("opened again it is%s, was%s", now, was)
		}
	}
	if down := d.f.control.Down(); !slices.Equal(down, []int{7}) {
		t.Fatalf("%v are down", down)
	}
	// Each device's ticks are 0: it is told again behind the whole pause.
	d.does(act(Tick), act(Tick))
	d.lines(0, 2)
	d.does(act(Crash), act(Tick), act(Tick))
	d.lines(0, 2)
	d.does(act(Tick))
	d.lines(1, 2)
	d.does(act(Down), act(Up))
	d.at(5, 0, 0)
	d.moves(1)
}

// TestP22_1_CrashWithTelegramsInBothLines: they come to the plant, and to who is opened then.
func TestP22_1_CrashWithTelegramsInBothLines(t *testing.T) {
	d := newDouble(t, apart(), 9, [2]int{5, 1}, [2]int{6, 4})
	d.does(order(1, 2, 5), order(2, 5, 6), act(Tick), act(Down, 1), act(Crash))
	d.lines(1, 1)
	d.at(5, 1, 1)
	d.at(6, 4, 3)
	d.does(act(Down), act(Up, 1))
	d.at(5, 0, 0)
	d.at(6, 4, 3)
	d.does(act(Up))
	d.at(6, 3, 3)
	d.settles(9, 3, api.OK)
	d.served(2, 1)
	d.served(5, 2)
}

// TestP22_1_AFullTape: an order that has no room is refused, whereby the controller is dead, though the power is there.
func TestP22_1_AFullTape(t *testing.T) {
	d := newDouble(t, example(), 3, [2]int{5, 1})
	for _, many := range []int{1000, 100, 10, 1} {
		all := slices.Repeat([]api.Note{{Kind: api.JMask, A: 1}}, many)
		for d.f.tape.Append(all) == api.OK {
			d.w.tape.Append(all)
		}
	}
	for range 2 {
		d.does(act(Crash), act(Arm, 0), act(Arm, 1000))
		d.fails(api.ErrFull, order(7, 2, 5))
		d.idle(api.ErrDead, act(Tick), order(7, 2, 5), act(Cancel, 7))
		d.idle(api.OK, act(Arm, 0)) // the tape isn't dead
		d.settles(5, 0, api.ErrDead)
	}
}

// TestP22_2_TwiceAndLate: of the same device, telegrams behind others.
func TestP22_2_TwiceAndLate(t *testing.T) {
	l := single() // the devices: 1 from the slot to the track, 2 back, 3 to the station, 4 back
	f, e := New(l, 9, [][2]int{{5, 0}})
	if e != api.OK {
		t.Fatalf("New: %d", e)
	}
	j := newJudge(t, f, l, [][2]int{{5, 0}})
	does := func(want api.Errno, all ...Act) {
		t.Helper()
		for _, a := range all {
			if e := j.do(a); e != want {
				t.Fatalf("%v: %d, want %d", j.said, e, want)
			}
		}
	}
	// The telegrams that have the tote leave the slot, and that it did, stay behind while it goes to the station and back.
	does(api.OK, order(1, 2, 5), act(Tick), act(TwiceDown), act(TwiceDown), act(Down), act(TwiceUp), act(Up))
	does(api.OK, act(Tick), act(Down, 2), act(Up, 1), act(Tick)) // it is at the station, and away again
	if f.State(1) != 2 {
		t.Fatalf("%v: %v", j.said, lookAt(f))
	}
	does(api.OK, act(Down, 2), act(Up, 1), act(Tick), act(Down, 2), act(Up, 1))
	if f.Real(5) != 0 || f.Mirror(5) != 0 || f.Moves() != 4 {
		t.Fatalf("%v: %v", j.said, lookAt(f))
	}
	// It is in the slot: what comes late has it go nowhere, and nobody believes that it went.
	does(api.OK, act(TwiceDown), act(Down))
	does(api.ErrFar, act(Up))
	if f.Real(5) != 0 || f.Mirror(5) != 0 || f.Moves() != 4 {
		t.Fatalf("%v: %v", j.said, lookAt(f))
	}
	does(api.OK, order(2, 2, 5), act(Tick), act(Break), act(TwiceUp, 1)) // told by another number, and out of order
	does(api.ErrFar, act(Up))
	does(api.OK, act(Down), act(Down), act(Mend), act(Up), act(Up, 1), act(Up)) // that it is out of order comes late, too
	if f.Real(5) != 0 || f.Mirror(5) != 0 || f.Moves() != 4 {
		t.Fatalf("%v: %v", j.said, lookAt(f))
	}
	for range 12 {
		does(api.OK, act(Tick))
	}
	does(api.OK, act(Down), act(Up))
	if a, b, told := f.Told(1); told || f.Moves() != 5 || f.Mirror(5) != 1 || f.Real(5) != 1 {
		t.Fatalf("%v: %v, told %d, %d", j.said, lookAt(f), a, b)
	}
}

// TestP22_2_LateByAWholeTour: what a device was told ahead of its last move comes as the tote is where it was then.
func TestP22_2_LateByAWholeTour(t *testing.T) {
	for tours := 1; tours < 5; tours++ {
		l := single()
		totes := [][2]int{{5, 0}}
		f, _ := New(l, 50, totes)
		j := newJudge(t, f, l, totes)
		for tour := range tours {
			j.do(order(tour, 2, 5))
			for range 4 { // there, and back
				j.do(act(Tick))
				down, up := f.Lines()
				if tour == 0 && down > 0 {
					j.do(act(TwiceDown, down-1)) // the first one stays
				}
				j.do(act(Down, down-1))
				if _, now := f.Lines(); now > up {
					j.do(act(TwiceUp, up))
					j.do(act(Up, up))
				}
			}
		}
		if f.Moves() != 4*tours || f.Real(5) != 0 || f.Mirror(5) != 0 {
			t.Fatalf("%d tours: %s", tours, lookAt(f))
		}
		down, up := f.Lines()
		if down != 4 || up != 4*tours {
			t.Fatalf("%d tours: %d and %d in the lines", tours, down, up)
		}
		for i := range 4 {
			j.do(act(Down))
			// Told once more what it did last, a device says so again; of what is older it says nothing.
			if _, now := f.Lines(); tours == 1 && now != up+i+1 || tours > 1 && now != up {
				t.Fatalf("%d tours: %d in the line up, were %d", tours, now, up)
			}
		}
		for _, now := f.Lines(); now > 0; now-- {
			if e := j.do(act(Up)); e != api.ErrFar {
				t.Fatalf("%d tours: %d", tours, e)
			}
		}
		if f.Moves() != 4*tours || f.Real(5) != 0 || f.Mirror(5) != 0 {
			t.Fatalf("%d tours: %s", tours, lookAt(f))
		}
	}
}

// TestP22_3_InOrderOverCrashes: three requests of a station, the second one cancelled, with a crash behind each act.
func TestP22_3_InOrderOverCrashes(t *testing.T) {
	for crash := range 60 {
		l := star()
		totes := [][2]int{{5, 1}, {6, 2}, {7, 3}}
		f, _ := New(l, 2, totes)
		j := newJudge(t, f, l, totes)
		at := 0
		do := func(a Act) {
			j.do(a)
			if at++; at == crash {
				j.do(act(Crash))
			}
		}
		for _, a := range []Act{order(11, 4, 7), order(12, 4, 5), order(13, 4, 6)} {
			do(a)
		}
		do(act(Cancel, 12))
		for range 40 {
			do(act(Tick))
			do(act(Down))
			do(act(Up))
		}
		if got := f.Served(4); !slices.Equal(got, []int{11, 13}) {
			t.Fatalf("a crash behind the act %d: served %v", crash, got)
		}
		if a, b, c := f.State(11), f.State(12), f.State(13); a != 2 || b != 3 || c != 2 {
			t.Fatalf("a crash behind the act %d: states %d, %d, %d", crash, a, b, c)
		}
	}
}

func TestP22_1_WhatIsTold(t *testing.T) {
	d := newDouble(t, star(), 3, [2]int{5, 1}, [2]int{6, 2})
	d.does(order(1, 4, 5), order(2, 4, 6), act(Tick))
	if got, want := fmt.Sprint(d.f.Requests()), "[{1 4 5} {2 4 6}]"; got != want {
		t.Fatalf("open are %s, want %s", got, want)
	}
	d.path(5, 1, 8)
	d.path(6)
	d.path(0)
	d.path(31)
	d.told(1, 5, 0)
	for _, dev := range []int{math.MinInt, -1, 0, 2, 8, 11, math.MaxInt} {
		if a, b, told := d.f.Told(dev); a != 0 || b != 0 || told {
			t.Fatalf("the device %d was told %d, %d, %v", dev, a, b, told)
		}
	}
	for _, n := range []int{math.MinInt, -1, 99, math.MaxInt} {
		if d.f.Mirror(n) != -1 || d.f.Real(n) != -1 || len(d.f.Served(n)) != 0 || len(d.f.Path(n)) != 0 || d.f.State(n) != 0 {
			t.Fatalf("of %d something is told", n)
		}
	}
}
