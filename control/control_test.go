package control

import (
	"math"
	"slices"
	"testing"

	"stillage/api"
	"stillage/tape"
)

func TestP21_1_Example(t *testing.T) {
	d := newDouble(t, example(), 3)
	d.does(putOp(5, 1), orderOp(7, 2, 5))
	d.states(7, 1)
	d.moves(1, 0, 5)
	d.moves(2, 0, 5)
	d.states(7, 1)
	d.ticks()
	d.states(7, 2)
	d.served(2, 7)
	d.at(5, 2)
}

// noLayouts are some that are none.
func noLayouts() []api.Layout {
	of := func(change func(l *api.Layout)) api.Layout {
		l := star()
		change(&l)
		return l
	}
	many := wide()
	many.Edges = append(many.Edges, [2]int{0, 10})
	return []api.Layout{
		{}, {Edges: [][2]int{{0, 1}}}, ring(39), many,
		of(func(l *api.Layout) { l.Nodes[2].Name = "" }), of(func(l *api.Layout) { l.Nodes[2].Name = "t0" }),
		of(func(l *api.Layout) { l.Nodes[2].Name = "A" }), of(func(l *api.Layout) { l.Nodes[0].Kind = 0 }),
		of(func(l *api.Layout) { l.Nodes[5].Kind = 5 }), of(func(l *api.Layout) { l.Nodes[1].Zone = 8 }),
		of(func(l *api.Layout) { l.Nodes[1].Zone = -1 }), of(func(l *api.Layout) { l.Nodes[0].Kind = api.NSlot }),
		of(func(l *api.Layout) { l.Edges[3][1] = 6 }), of(func(l *api.Layout) { l.Edges[3][0] = -1 }),
		of(func(l *api.Layout) { l.Edges[3] = l.Edges[1] }), of(func(l *api.Layout) { l.Edges[3] = [2]int{0, 0} }),
		of(func(l *api.Layout) { l.Edges[9] = [2]int{math.MinInt, math.MaxInt} }),
	}
}

// badTape is one whose notes are refused, with bytes behind them; deadTape is such a one that is dead, too.
func badTape(t testing.TB) *tape.Tape {
	p := taped(t, api.Note{Kind: api.JServed, A: 1})
	p.Arm(3)
	p.Append([]api.Note{{Kind: api.JCancel, A: 1}})
	return p.Crash()
}

func deadTape(t testing.TB) *tape.Tape {
	p := badTape(t)
	p.Arm(0)
	p.Repair()
	return p
}

func refusesOpen(t *testing.T, l api.Layout, pause int, p *tape.Tape, want api.Errno) {
	t.Helper()
	if c, e := Open(l, pause, p); c != nil || e != want {
		t.Errorf("Open of %v, %d: %v, %d, want %d", l, pause, c, e, want)
	}
}

func badPauses() []int {
	return []int{0, -1, -1000, 1001, 1002, 1 << 32, 1<<32 + 1, math.MinInt, math.MaxInt}
}

// TestP21_1_OpenOfWhatIsNoLayout: ahead of all other errors, too.
func TestP21_1_OpenOfWhatIsNoLayout(t *testing.T) {
	for _, l := range noLayouts() {
		for _, pause := range append(badPauses(), 1, 1000) {
			refusesOpen(t, l, pause, tape.New(), api.ErrPart)
			refusesOpen(t, l, pause, badTape(t), api.ErrPart)
			refusesOpen(t, l, pause, deadTape(t), api.ErrPart)
		}
	}
}

// TestP21_1_OpenOfAPauseOutside: ahead of the tape's errors, and the tape stays as it was.
func TestP21_1_OpenOfAPauseOutside(t *testing.T) {
	for _, l := range layouts() {
		for _, pause := range badPauses() {
			refusesOpen(t, l, pause, tape.New(), api.ErrRange)
			p := badTape(t)
			refusesOpen(t, l, pause, p, api.ErrRange)
			if p.Size() != 8 {
				t.Errorf("the tape has %d bytes", p.Size())
			}
			refusesOpen(t, l, pause, deadTape(t), api.ErrRange)
		}
		for _, pause := range []int{1, 2, 999, 1000} {
			newDouble(t, l, pause)
		}
	}
}

// TestP21_1_OpenRepairs: what was torn goes; where there is no power for it, that is answered, ahead of notes that are refused.
func TestP21_1_OpenRepairs(t *testing.T) {
	torn := func() *tape.Tape {
		p := taped(t, api.Note{Kind: api.JPut, A: 5, B: 1})
		p.Arm(5)
		p.Append([]api.Note{{Kind: api.JPut, A: 6, B: 2}})
		return p.Crash()
	}
	p := torn()
	c, e := Open(star(), 3, p)
	if e != api.OK || p.Size() != 6 || c.Where(5) != 1 || c.Where(6) != -1 {
		t.Fatalf("Open: %d, the tape has %d bytes", e, p.Size())
	}
	if e := c.Put(6, 2); e != api.OK || p.Size() != 12 {
		t.Errorf("Put: %d, the tape has %d bytes", e, p.Size())
	}
	p = torn()
	p.Arm(1)
	if _, e := Open(star(), 3, p); e != api.OK || p.Size() != 6 {
		t.Errorf("Open with one unit: %d, the tape has %d bytes", e, p.Size())
	}
	p = torn()
	p.Arm(0)
	refusesOpen(t, star(), 3, p, api.ErrDead)
	refusesOpen(t, star(), 3, p, api.ErrDead)
	refusesOpen(t, star(), 3, deadTape(t), api.ErrDead)
	if _, e := Open(star(), 3, p.Crash()); e != api.OK {
		t.Errorf("Open of its Crash: %d", e)
	}
	whole := taped(t, api.Note{Kind: api.JPut, A: 5, B: 1})
	whole.Arm(0)
	if c, e := Open(star(), 3, whole); e != api.OK || c.Where(5) != 1 || c.Dead() {
		t.Errorf("Open of a whole one without power: %d", e)
	}
	refusesOpen(t, star(), 3, badTape(t), api.ErrNote)
}

// The notes of the tests, short.
func put(tote, node int) api.Note    { return api.Note{Kind: api.JPut, A: tote, B: node} }
func order(id, p, tote int) api.Note { return api.Note{Kind: api.JOrder, A: id, B: p, C: tote} }
func cancel(id int) api.Note         { return api.Note{Kind: api.JCancel, A: id} }
func send(dev, tote, s int) api.Note { return api.Note{Kind: api.JSend, A: dev, B: tote, C: s} }
func moved(dev, tote int) api.Note   { return api.Note{Kind: api.JMoved, A: dev, B: tote} }
func serve(id int) api.Note          { return api.Note{Kind: api.JServed, A: id} }
func dropped(dev int) api.Note       { return api.Note{Kind: api.JDropped, A: dev} }
func mask(dev, down int) api.Note    { return api.Note{Kind: api.JMask, A: dev, B: down} }

// goodNotes is a list that a star takes: the requests 1 open, 2 cancelled, 3 served, 4 behind 1; the tote 5 told by the device 1, 6 at
// a slot, 7 at the station 5; the device 4 out of order.
func goodNotes() []api.Note {
	return []api.Note{put(5, 1), put(6, 2), put(7, 5), order(1, 4, 5), order(2, 5, 6), cancel(2), order(3, 5, 7), serve(3), order(4, 4, 6),
		mask(4, 1), send(1, 5, 9)}
}

// TestP21_1_OpenOfNotesThatAreRefused has one behind good ones, and good ones behind it.
func TestP21_1_OpenOfNotesThatAreRefused(t *testing.T) {
	for _, bad := range []api.Note{
		put(5, 3), put(7, 3), put(8, 1), put(8, 0), put(8, 5), put(0, 3), put(31, 3), put(8, 6), put(8, 40), put(1<<31-1, 1<<31-1),
		order(1, 4, 5), order(2, 5, 6), order(3, 5, 7), order(4, 4, 6), // said already
		order(1, 5, 5), order(2, 4, 6), order(3, 5, 8), order(5, 5, 6), order(5, 4, 5), order(5, 40, 7), order(5, 5, 0), order(5, 5, 31),
		cancel(2), cancel(3), cancel(5), cancel(0), cancel(1<<31 - 1),
		serve(2), serve(3), serve(4), serve(5), serve(1<<31 - 1),
		send(1, 5, 9), send(1, 5, 10), send(1, 6, 10), send(4, 6, 0), send(3, 6, 0), send(2, 5, 0), send(9, 6, 0), send(5, 8, 0),
		send(0, 5, 0), send(11, 5, 0), send(9, 7, 65536), send(9, 0, 0), send(9, 31, 0),
		moved(3, 6), moved(1, 6), moved(0, 5), moved(11, 5), moved(1, 0), moved(1, 31), dropped(3), dropped(0), dropped(11), mask(0, 1), mask(11, 0),
	} {
		if _, e := factsOf(star(), append(goodNotes(), bad)); e == api.OK {
			t.Fatalf("%v isn't bad", bad)
		}
		refusesOpen(t, star(), 3, taped(t, append(goodNotes(), bad)...), api.ErrNote)
		refusesOpen(t, star(), 3, taped(t, append(append(goodNotes(), bad), put(9, 3))...), api.ErrNote)
	}
	for _, bad := range []api.Note{cancel(1), serve(1), send(1, 5, 0), moved(1, 5), dropped(1), mask(11, 1), put(5, 6), order(1, 40, 5)} {
		refusesOpen(t, star(), 3, taped(t, bad), api.ErrNote)
		refusesOpen(t, star(), 3, taped(t, bad, put(9, 3)), api.ErrNote)
	}
}

// TestP21_1_OpenOfNotes: all that mirror and book take as new is taken, though no call of the controller would note it.
func TestP21_1_OpenOfNotes(t *testing.T) {
	d := newDouble(t, star(), 3, goodNotes()...)
	d.at(5, 1)
	d.served(5, 3)
	for id, state := range []int{0, 1, 3, 2, 1, 0} {
		d.states(id, state)
	}
	if tote, seq, told := d.c.Told(1); tote != 5 || seq != 9 || !told || !slices.Equal(d.c.Down(), []int{4}) {
		t.Errorf("told %d, %d, %v, down %v", tote, seq, told, d.c.Down())
	}
	for _, more := range [][]api.Note{
		{mask(4, 1)}, {mask(4, 0)}, {mask(4, 0), mask(4, 0), mask(1, 1)}, {moved(1, 5)}, {dropped(1), send(1, 5, 9)}, {dropped(1), send(1, 5, 0)},
		{order(5, 0, 9)}, {order(5, 39, 30)}, {order(5, 1, 7)}, {order(1<<31-1, 5, 7), serve(1<<31 - 1)}, {serve(1), serve(4)}, {cancel(1), serve(4)},
		{cancel(1), order(5, 4, 5)}, {order(0, 5, 7), cancel(0)},
	} {
		d := newDouble(t, star(), 3, append(goodNotes(), more...)...)
		for range 12 {
			d.call(tickOp())
			d.call(anyDone(d.w))
		}
	}
}

// anyDone is what the first device that was told something answers.
func anyDone(w *byWords) op {
	for dev := 1; dev <= len(w.edges); dev++ {
		if what, told := w.told[dev]; told {
			return doneOp(dev, what[1], what[0])
		}
	}
	return doneOp(1, 0, 1)
}

// TestP21_1_OpenHasNoJobs: what goes on by the notes goes on, and no more.
func TestP21_1_OpenHasNoJobs(t *testing.T) {
	d := newDouble(t, line(), 2)
	d.does(putOp(5, 0), orderOp(1, 2, 5))
	d.ticks(move(1, 0, 5))
	d.path(5, 1, 3)
	d.does(openOp())
	d.path(5)
	d.quiet(1)
	d.path(5) // it is on its way, so it doesn't rest
	d.does(doneOp(1, 0, 5))
	d.path(5)
	d.at(5, 1)
	d.moves(3, 0, 5)
	d.does(openOp())
	d.ticks(move(4, 0, 5)) // served, and put away again
	d.served(2, 1)
}

// outside are numbers that are no tote, and no node of small layouts.
func outside() []int {
	return []int{-1, -2, 41, 1 << 31, 1 << 32, 1<<32 + 1, math.MinInt, math.MaxInt}
}

func TestP21_1_Put(t *testing.T) {
	for _, l := range layouts() {
		d := newDouble(t, l, 3)
		for _, n := range outside() {
			d.fails(api.ErrRange, putOp(n, 0), putOp(1, n), putOp(n, n), putOp(30, len(l.Nodes)), putOp(0, 0), putOp(31, 0))
		}
		d.does(putOp(30, len(l.Nodes)-1))
		d.fails(api.ErrTwice, putOp(30, 0), putOp(30, len(l.Nodes)-1))
		d.fails(api.ErrHeld, putOp(1, len(l.Nodes)-1))
		d.fails(api.ErrRange, putOp(30, -1), putOp(31, len(l.Nodes)-1))
		if len(l.Nodes) > 1 {
			d.does(putOp(1, 0))
			d.fails(api.ErrHeld, putOp(2, 0))
		}
	}
}

// TestP21_1_PutOnAPath: ErrHeld at each node that is left to come to, ahead of all other errors; not at others.
func TestP21_1_PutOnAPath(t *testing.T) {
	d := newDouble(t, loop(), 3)
	d.does(putOp(5, 6), orderOp(1, 9, 5))
	d.ticks(move(7, 0, 5))
	d.path(5, 7, 1, 2, 3, 4, 13)
	held := func(nodes ...int) {
		t.Helper()
		for _, node := range nodes {
			d.fails(api.ErrHeld, putOp(6, node), putOp(5, node), putOp(0, node), putOp(31, node), putOp(math.MinInt, node))
		}
	}
	held(0, 1, 2, 3, 4, 9)
	d.fails(api.ErrHeld, putOp(6, 6)) // by the mirror: it is there still
	d.fails(api.ErrTwice, putOp(5, 6), putOp(5, 5), putOp(5, 8))
	d.fails(api.ErrRange, putOp(0, 5), putOp(0, 6), putOp(6, -1), putOp(6, 11))
	d.does(doneOp(7, 0, 5))
	held(1, 2, 3, 4, 9)
	d.fails(api.ErrHeld, putOp(6, 0))
	d.fails(api.ErrTwice, putOp(5, 0), putOp(5, 6))
	d.fails(api.ErrRange, putOp(31, 0))
	d.moves(1, 0, 5)
	d.does(putOp(6, 6), putOp(7, 0), putOp(8, 5)) // where the path was
	held(2, 3, 4, 9)
	d.does(cancelOp(1)) // the job stays
	held(2, 3, 4, 9)
	d.does(openOp()) // and is gone
	d.does(putOp(9, 9), putOp(10, 2))
}

// TestP21_1_PutWhereAToteGoes: a device was told to move it there, and it has no job.
func TestP21_1_PutWhereAToteGoes(t *testing.T) {
	d := newDouble(t, star(), 3, put(5, 1), send(1, 5, 0))
	d.fails(api.ErrHeld, putOp(6, 0), putOp(6, 1))
	d.fails(api.ErrRange, putOp(31, 0))
	d.fails(api.ErrTwice, putOp(5, 0))
	d.does(refuseOp(1, 0, 5), putOp(6, 0))
}

// TestP21_1_OrderOutside: an ID, a station; and which error comes first.
func TestP21_1_OrderOutside(t *testing.T) {
	d := newDouble(t, loop(), 3)
	d.does(putOp(5, 6), putOp(6, 7), orderOp(3, 8, 5))
	for _, id := range []int{-1, -2, math.MinInt, -1 << 31, 1 << 31, 1<<31 + 3, 1 << 32, 1<<32 + 3, math.MaxInt} {
		d.fails(api.ErrRange, orderOp(id, 8, 6), orderOp(id, 8, 5), orderOp(id, 8, 9), orderOp(id, 7, 6), orderOp(id, -1, 31))
	}
	for _, node := range append(outside(), 0, 1, 2, 3, 4, 5, 6, 7, 10, 11, 12, 40, 41) {
		d.fails(api.ErrRange, orderOp(4, node, 6), orderOp(4, node, 5), orderOp(4, node, 9), orderOp(4, node, 0))
	}
	for _, tote := range append(outside(), 0, 1, 7, 30, 31) {
		d.fails(api.ErrTote, orderOp(4, 8, tote), orderOp(4, 9, tote))
	}
	d.does(orderOp(0, 8, 6), cancelOp(0), orderOp(1<<31-1, 9, 6), cancelOp(1<<31-1))
	d.does(openOp())
	d.states(1<<31-1, 3)
}

// TestP21_1_OrderOfAnIDThatIsKnown: open, served and cancelled; nothing is noted.
func TestP21_1_OrderOfAnIDThatIsKnown(t *testing.T) {
	d := newDouble(t, star(), 3, goodNotes()...)
	known := func() {
		t.Helper()
		d.known(orderOp(1, 4, 5), orderOp(2, 5, 6), orderOp(3, 5, 7), orderOp(4, 4, 6))
		for id := 1; id <= 4; id++ {
			d.fails(api.ErrTwice, orderOp(id, 4, 7), orderOp(id, 5, 5), orderOp(id, 0, 5), orderOp(id, 39, 30), orderOp(id, 4, 8))
			d.fails(api.ErrRange, orderOp(id, 40, 5), orderOp(id, -1, 5), orderOp(id, 4, 0), orderOp(id, 4, 31), orderOp(id, math.MinInt, math.MaxInt))
		}
	}
	known()
	d.does(openOp())
	known()
	d.call(tickOp())
	known()
}

// TestP21_1_OrderOfAToteThatIsWanted: by the book; behind the other errors; not any more, when that is cancelled or served.
func TestP21_1_OrderOfAToteThatIsWanted(t *testing.T) {
	d := newDouble(t, star(), 3)
	d.does(putOp(5, 1), orderOp(1, 4, 5))
	d.fails(api.ErrTote, orderOp(2, 4, 5), orderOp(2, 5, 5))
	d.fails(api.ErrRange, orderOp(2, 3, 5))
	d.does(cancelOp(1), orderOp(2, 5, 5))
	d.fails(api.ErrTote, orderOp(3, 5, 5))
	d.moves(1, 0, 5)
	d.moves(10, 0, 5)
	d.fails(api.ErrTote, orderOp(3, 5, 5))
	d.call(tickOp())
	d.does(orderOp(3, 5, 5))
	d.served(5, 2)
}

// TestP21_1_OrderWithoutAWay: where edges lead, and over tracks alone; whatever stands in the way, and whatever is out of order.
func TestP21_1_OrderWithoutAWay(t *testing.T) {
	d := newDouble(t, store("t0 t1 s0 s1 p0 p1 p2 g0", "s0=t0 t0>s1 s1>t1 t1>p1 g0>t1 t0=p0 p2>t0"), 3)
	d.does(putOp(1, 2), putOp(2, 3), putOp(3, 7), putOp(4, 6))
	// The stations 4 and 5: from s0 to p1 no way leads but through a slot; to p2 none leads at all but from itself.
	d.fails(api.ErrTarget, orderOp(1, 5, 1), orderOp(1, 6, 1), orderOp(1, 4, 2), orderOp(1, 4, 3), orderOp(1, 6, 3), orderOp(1, 5, 4))
	d.fails(api.ErrTarget, orderOp(0, 5, 1), orderOp(1<<31-1, 5, 1))
	d.does(orderOp(1, 4, 1), orderOp(2, 5, 2), orderOp(3, 5, 3), orderOp(4, 6, 4))
	d.call(tickOp())
	d.states(4, 2) // it was there
	d.does(orderOp(5, 4, 4), cancelOp(1))
	d.fails(api.ErrTarget, orderOp(6, 5, 1)) // while it is on its way
	d.fails(api.ErrTarget, orderOp(6, 6, 1))

	d = newDouble(t, line(), 3)
	d.does(putOp(1, 0), putOp(2, 1), faultOp(1), faultOp(3), orderOp(1, 2, 1)) // all of it is shut, and there is a way
	d.states(1, 1)
	d = newDouble(t, store("s0 p0 t0", "t0=p0"), 3)
	d.does(putOp(1, 0), putOp(2, 1))
	d.fails(api.ErrTarget, orderOp(1, 1, 1))
	d.fails(api.ErrTote, orderOp(1, 1, 3))
	d.does(orderOp(1, 1, 2)) // no edge is needed
}

// TestP21_1_OrderWhereverItIs: the way is reckoned from where the mirror has the tote, not from where it goes.
func TestP21_1_OrderWhereverItIs(t *testing.T) {
	d := newDouble(t, store("t0 s0 p0 p1 t1", "t0>s0 t0>p0 s0>t1 t1>p1"), 3)
	d.does(putOp(1, 0))
	d.ticks(move(1, 0, 1))
	d.fails(api.ErrTarget, orderOp(1, 3, 1))
	d.does(orderOp(1, 2, 1), cancelOp(1), doneOp(1, 0, 1))
	d.fails(api.ErrTarget, orderOp(2, 2, 1))
	d.does(orderOp(2, 3, 1))
}

// TestP21_1_ThirtyRequests: as many as there are totes; the next one finds its tote wanted.
func TestP21_1_ThirtyRequests(t *testing.T) {
	d := newDouble(t, wide(), 5)
	for tote := 1; tote <= 30; tote++ {
		d.does(putOp(tote, tote-1+10))
	}
	stations := []int{24, 30, 35, 39}
	for tote := 30; tote >= 1; tote-- {
		d.does(orderOp(tote, stations[tote%4], tote))
	}
	d.fails(api.ErrTote, orderOp(31, 24, 1), orderOp(31, 39, 30))
	d.does(openOp(), cancelOp(30), orderOp(31, 39, 30))
	d.fails(api.ErrTote, orderOp(32, 39, 30))
}

func TestP21_1_Cancel(t *testing.T) {
	d := newDouble(t, star(), 3, goodNotes()...)
	for _, id := range []int{0, -1, 5, 1<<31 - 1, 1 << 31, 1<<32 + 1, math.MinInt, math.MaxInt} {
		d.fails(api.ErrNone, cancelOp(id))
	}
	d.known(cancelOp(2))
	d.fails(api.ErrState, cancelOp(3))
	d.does(cancelOp(4), cancelOp(1))
	d.known(cancelOp(1), cancelOp(4), cancelOp(2))
	d.does(openOp())
	d.known(cancelOp(1), cancelOp(4), cancelOp(2))
	d.fails(api.ErrState, cancelOp(3))
	d.known(orderOp(1, 4, 5)) // said again it stays cancelled
	d.states(1, 3)
}

// TestP21_1_CancelLeavesTheJob: it goes on to its end; then the tote is put away.
func TestP21_1_CancelLeavesTheJob(t *testing.T) {
	d := newDouble(t, line(), 3)
	d.does(putOp(5, 0), orderOp(1, 2, 5))
	d.moves(1, 0, 5)
	d.does(cancelOp(1))
	d.path(5, 3)
	d.moves(3, 0, 5)
	d.served(2)
	d.moves(4, 0, 5)
	d.moves(2, 0, 5)
	d.quiet(2)
	d.states(1, 3)
}

// noTelegrams are bytes that are none, by the error.
func noTelegrams() map[api.Errno][][]byte {
	good := bytesOf(answer(api.TDone, 1, 0, 5, 0))
	with := func(at int, b byte) []byte {
		l := slices.Clone(good)
		l[at] = b
		return l
	}
	summed := func(t api.Tele) []byte {
		b := []byte{0xA5, t.Kind, byte(t.Dev >> 8), byte(t.Dev), byte(t.Seq >> 8), byte(t.Seq), byte(t.A >> 8), byte(t.A), byte(t.B >> 8), byte(t.B)}
		s := sumOf(b)
		return append(b, byte(s>>8), byte(s))
	}
	return map[api.Errno][][]byte{
		api.ErrLength: {nil, {}, {0xA5}, good[:11], append(slices.Clone(good), 0), append(slices.Clone(good), good...)},
		api.ErrMark:   {with(0, 0), with(0, 0xA4), make([]byte, 12)},
		api.ErrSum:    {with(1, 3), with(3, 2), with(5, 1), with(7, 6), with(10, good[10]+1), with(11, good[11]+1)},
		api.ErrKind:   {summed(answer(0, 1, 0, 5, 0)), summed(answer(8, 1, 0, 5, 0)), summed(answer(9, 0, 0, 0, 0)), summed(answer(255, 201, 0, 5, 0))},
		api.ErrField: {
			summed(answer(2, 0, 0, 5, 0)), summed(answer(2, 201, 0, 5, 0)), summed(answer(2, 1, 0, 0, 0)), summed(answer(2, 1, 0, 31, 0)),
			summed(answer(2, 1, 0, 5, 1)), summed(answer(3, 1, 0, 5, 0)), summed(answer(3, 1, 0, 5, 4)), summed(answer(4, 1, 1, 0, 0)),
			summed(answer(5, 1, 0, 1, 0)), summed(answer(4, 201, 0, 0, 0)), summed(answer(6, 1, 0, 1, 0)), summed(answer(7, 1, 0, 0, 31)),
		},
	}
}

// sumOf is the sum of bytes, bit by bit.
func sumOf(b []byte) uint16 {
	c := uint16(0xFFFF)
	for _, x := range b {
		for bit := range 8 {
			top := c>>15 ^ uint16(x>>(7-bit)&1)
			if c <<= 1; top == 1 {
				c ^= 0x1021
			}
		}
	}
	return c
}

func TestP21_1_HearOfWhatIsNoTelegram(t *testing.T) {
	for _, notes := range [][]api.Note{nil, {put(5, 1), send(1, 5, 0), mask(1, 1)}} {
		d := newDouble(t, star(), 3, notes...)
		for want, all := range noTelegrams() {
			for _, b := range all {
				d.fails(want, hearOp(b))
			}
		}
	}
}

// TestP21_1_HearOfADeviceThatIsNot: whatever the kind is.
func TestP21_1_HearOfADeviceThatIsNot(t *testing.T) {
	for _, l := range layouts() {
		d := newDouble(t, l, 3)
		for _, dev := range []int{len(l.Edges) + 1, len(l.Edges) + 2, 121, 199, 200} {
			for kind := uint8(1); kind <= 7; kind++ {
				b := uint16(0)
				if kind == api.TRefused {
					b = 2
				}
				x := api.Tele{Kind: kind, Dev: uint16(dev), A: 5, B: b}
				if kind > api.TRefused && kind < api.TState {
					x.A = 0
				}
				d.fails(api.ErrRange, teleOp(x))
			}
		}
		if last := len(l.Edges); last > 0 {
			d.fails(api.ErrFar, doneOp(last, 0, 5), refuseOp(last, 0, 5), repairOp(last))
			d.does(faultOp(last), repairOp(last))
		}
	}
}

// TestP21_1_HearOfOtherKinds: also of a device that was told just that.
func TestP21_1_HearOfOtherKinds(t *testing.T) {
	d := newDouble(t, star(), 3)
	all := func() {
		t.Helper()
		for _, dev := range []int{1, 4, 10} {
			d.fails(api.ErrKind, teleOp(answer(api.TMove, dev, 0, 5, 0)), teleOp(answer(api.TAsk, dev, 0, 0, 0)), teleOp(answer(api.TState, dev, 0, 0, 5)),
				teleOp(answer(api.TState, dev, 0, 0, 0)), teleOp(answer(api.TState, dev, 65535, 65535, 30)), teleOp(answer(api.TAsk, dev, 9, 0, 0)))
		}
	}
	all()
	d.does(putOp(5, 1), orderOp(1, 4, 5))
	d.ticks(move(1, 0, 5))
	all()
	d.does(faultOp(1))
	all()
}

// TestP21_1_HearOfAnotherSeqOrTote: ErrFar, of TDone and TRefused, of a device that wasn't told, too.
func TestP21_1_HearOfAnotherSeqOrTote(t *testing.T) {
	for _, seq := range []int{0, 1, 255, 256, 32768, 65535} {
		d := newDouble(t, star(), 3, put(5, 1), put(6, 2), put(9, 5), order(1, 4, 5), send(9, 9, seq), dropped(9), send(1, 5, seq))
		for _, far := range []int{1, 2, 256, 32767, 32768, 65535} {
			other := (seq + far) % 65536
			d.fails(api.ErrFar, doneOp(1, other, 5), refuseOp(1, other, 5), doneOp(1, other, 6))
		}
		for _, tote := range []int{1, 4, 6, 9, 30} {
			d.fails(api.ErrFar, doneOp(1, seq, tote), refuseOp(1, seq, tote))
		}
		for _, dev := range []int{2, 3, 8, 9, 10} {
			d.fails(api.ErrFar, doneOp(dev, seq, 5), refuseOp(dev, seq, 5), doneOp(dev, seq, 9), refuseOp(dev, seq, 9))
		}
		d.does(doneOp(1, seq, 5))
		d.fails(api.ErrFar, doneOp(1, seq, 5), refuseOp(1, seq, 5)) // heard twice
	}
}

// TestP21_1_HearOfTDone: the path is without its first device; behind the last one the job is done.
func TestP21_1_HearOfTDone(t *testing.T) {
	d := newDouble(t, loop(), 3)
	d.does(putOp(5, 6), orderOp(1, 9, 5))
	path := []int{7, 1, 2, 3, 4, 13}
	for i, dev := range path {
		d.ticks(move(dev, 0, 5))
		d.path(5, path[i:]...)
		d.does(doneOp(dev, 0, 5))
		d.path(5, path[i+1:]...)
		d.at(5, d.w.edges[dev-1][1])
	}
	d.states(1, 1)
	d.ticks(move(14, 0, 5)) // it rests, so it is served, and put away
	d.states(1, 2)
}

// TestP21_1_HearOfTDoneWithoutAJob: it was told by the controller that was there before.
func TestP21_1_HearOfTDoneWithoutAJob(t *testing.T) {
	d := newDouble(t, star(), 3, put(5, 1), put(6, 2), send(1, 5, 3))
	d.does(doneOp(1, 3, 5))
	d.path(5)
	d.at(5, 0)
	d = newDouble(t, star(), 3, put(5, 1), put(6, 2), send(1, 5, 3))
	d.does(refuseOp(1, 3, 5))
	d.path(5)
	d.at(5, 1)
	d.quiet(1)
}

// TestP21_1_HearOfTRefused: of each reason: the whole job is void; the tote stays, and a tick reckons anew, with the next Seq.
func TestP21_1_HearOfTRefused(t *testing.T) {
	for reason := 1; reason <= 3; reason++ {
		d := newDouble(t, ladder(), 3)
		d.does(putOp(5, 6), orderOp(1, 8, 5))
		d.moves(15, 0, 5)
		d.ticks(move(1, 0, 5))
		d.path(5, 1, 3, 19)
		d.does(teleOp(answer(api.TRefused, 1, 0, 5, reason)))
		d.path(5)
		d.at(5, 0)
		if _, _, told := d.c.Told(1); told {
			t.Errorf("the device 1 is told still")
		}
		d.does(putOp(6, 2), faultOp(1)) // where the path was
		d.ticks(move(9, 0, 5))
		d.path(5, 9, 5, 7, 21)
	}
	d := newDouble(t, line(), 3)
	d.does(putOp(5, 0), orderOp(1, 2, 5))
	for seq := range 4 {
		d.ticks(move(1, seq, 5))
		d.does(refuseOp(1, seq, 5))
		d.fails(api.ErrFar, refuseOp(1, seq, 5), doneOp(1, seq, 5))
	}
}

// TestP21_1_HearOfTFaultAndTRepair: each is new once; of a device that was told, too, which stays told.
func TestP21_1_HearOfTFaultAndTRepair(t *testing.T) {
	d := newDouble(t, star(), 100)
	d.fails(api.ErrFar, repairOp(1), repairOp(10))
	d.does(faultOp(10), faultOp(2))
	d.fails(api.ErrFar, faultOp(10), faultOp(2), repairOp(1))
	d.does(openOp())
	d.fails(api.ErrFar, faultOp(10), faultOp(2), repairOp(1))
	if got := d.c.Down(); !slices.Equal(got, []int{2, 10}) {
		t.Errorf("Down: %v", got)
	}
	d.does(repairOp(10))
	d.fails(api.ErrFar, repairOp(10), faultOp(2))
	d.does(faultOp(10), repairOp(2), putOp(5, 1), orderOp(1, 4, 5))
	d.ticks(move(1, 0, 5))
	d.does(faultOp(1))
	if tote, seq, told := d.c.Told(1); tote != 5 || seq != 0 || !told {
		t.Errorf("told %d, %d, %v", tote, seq, told)
	}
	d.path(5, 1, 8)
	d.quiet(2)
	d.does(doneOp(1, 0, 5))
	d.at(5, 0)
}
