package control

import (
	"fmt"
	"math"
	"math/rand"
	"slices"
	"testing"

	"stillage/api"
	"stillage/note"
	"stillage/tape"
)

// story is a list of calls as it goes where the power stays: what each answers, and how many notes the tape has behind it.
type story struct {
	l       api.Layout
	pause   int
	ops     []op
	results []result
	counts  []int
	notes   []api.Note
}

// tell makes a story of calls; none of them is an openOp, by which the power would come back.
func tell(t *testing.T, l api.Layout, pause int, choose ...chooser) story {
	t.Helper()
	d := newDouble(t, l, pause)
	s := story{l: l, pause: pause}
	for _, f := range choose {
		o := f(d.w)
		if o.name == "Open" {
			o = tickOp()
		}
		s.ops, s.results = append(s.ops, o), append(s.results, d.call(o))
		s.counts = append(s.counts, len(d.w.notes))
	}
	s.notes = d.w.notes
	return s
}

func sizeOf(notes []api.Note) int {
	b, _ := note.Write(notes)
	return len(b)
}

// stories are one with each kind of note, one of all steps of a tick at once, and some by chance.
func stories(t *testing.T) []story {
	t.Helper()
	tick, done := just(tickOp()), aDone(false)
	all := []story{
		tell(t, line(), 2, just(putOp(5, 0)), just(orderOp(1, 2, 5)), tick, aRefused(false), tick, tick, tick, done, just(faultOp(3)), tick,
			just(repairOp(3)), tick, done, tick, just(cancelOp(1)), just(orderOp(200, 2, 5)), done, just(cancelOp(200)), just(cancelOp(200)), tick, done),
		tell(t, store("t0 s0 p0 t1 s1 p1 t2 s2 g2", "t0>p0 s1=t1 t1=p1 g2>t2 t2>s2"), 1,
			just(putOp(9, 0)), just(orderOp(1, 2, 9)), tick, done, just(putOp(8, 4)), just(putOp(7, 8)), just(orderOp(1<<31-1, 5, 8)), tick, done, done, tick),
	}
	for at, l := range layouts() {
		r := newChance(l, 60+at)
		var choose []chooser
		for range 90 {
			choose = append(choose, r.op)
		}
		all = append(all, tell(t, l, 1+at%4, choose...))
	}
	return all
}

// deadCalls are some that would answer anything else, were it not for the death.
func deadCalls() []op {
	return []op{
		putOp(1, 0), putOp(0, -1), orderOp(1, 2, 5), orderOp(-1, 2, 5), orderOp(1<<31, 99, 99), orderOp(77, 2, 5), cancelOp(1), cancelOp(-1), cancelOp(77),
		hearOp(nil), hearOp([]byte{1}), doneOp(200, 0, 5), doneOp(1, 0, 5), refuseOp(1, 0, 5), faultOp(1), repairOp(1), teleOp(answer(api.TAsk, 1, 0, 0, 0)), tickOp(),
	}
}

// isDead holds that all calls answer ErrDead, and nothing comes to the tape.
func isDead(t *testing.T, c *Control, p *tape.Tape, ops []op) {
	t.Helper()
	if !c.Dead() {
		t.Fatalf("it isn't dead")
	}
	size, before := p.Size(), keptBy(c)
	for _, o := range append(deadCalls(), ops...) {
		if r := o.onControl(t, &c, &p); !r.same(result{e: api.ErrDead}) {
			t.Fatalf("%v of a dead one: %v", o, r)
		}
	}
	if !c.Dead() || p.Size() != size || keptBy(c) != before {
		t.Fatalf("a dead one: %v, %d bytes, was %d", c.Dead(), p.Size(), size)
	}
}

// at tells the story with power for so many units, up to the call in which it goes; it answers the tape, that call's place, and how
// many whole notes there was power for.
func (s story) at(t *testing.T, units int) (*tape.Tape, int, int) {
	t.Helper()
	p := tape.New()
	c, _ := Open(s.l, s.pause, p)
	p.Arm(units)
	died := len(s.ops)
	for i, o := range s.ops {
		r := o.onControl(t, &c, &p)
		if r.e == api.ErrDead {
			if !r.same(result{e: api.ErrDead}) {
				t.Fatalf("%d units: %v: %v", units, o, r)
			}
			died = i
			break
		}
		if c.Dead() || !r.same(s.results[i]) {
			t.Fatalf("%d units: %v: %v, want %v", units, o, r, s.results[i])
		}
	}
	whole := 0
	for whole < len(s.notes) && sizeOf(s.notes[:whole+1]) <= units {
		whole++
	}
	if died < len(s.ops) {
		isDead(t, c, p, s.ops[died:])
	}
	// Whether it died or not, it has what the tape has.
	f, _ := factsOf(s.l, s.notes[:whole])
	if got := keptBy(c); got != f.kept() {
		t.Fatalf("%d units: it tells%s\nwant%s", units, got, f.kept())
	}
	return p, died, whole
}

// TestP21_2_ThePowerGoneAtAnyByte: of each story, at each byte of its tape.
func TestP21_2_ThePowerGoneAtAnyByte(t *testing.T) {
	for _, s := range stories(t) {
		for units := range sizeOf(s.notes) + 1 {
			p, died, whole := s.at(t, units)
			if died == len(s.ops) && units < sizeOf(s.notes) || died < len(s.ops) && (whole >= s.counts[died] || died > 0 && whole < s.counts[died-1]) {
				t.Fatalf("%d units: it died in the call %d, with %d notes of %v", units, died, whole, s.counts)
			}
			s.opened(t, p, died, whole)
		}
	}
}

// opened holds a controller that is opened with a tape's Crash to what was answered up to the call in which the power went.
func (s story) opened(t *testing.T, p *tape.Tape, died, whole int) {
	t.Helper()
	p = p.Crash()
	c, e := Open(s.l, s.pause, p)
	if e != api.OK || c.Dead() || !slices.Equal(p.Read(), s.notes[:whole]) || p.Size() != sizeOf(s.notes[:whole]) {
		t.Fatalf("behind the call %d: Open: %d, %v, want %v", died, e, p.Read(), s.notes[:whole])
	}
	f, _ := factsOf(s.l, s.notes[:whole])
	if got := lookAt(c); got != f.kept() {
		t.Fatalf("behind the call %d: opened, it tells%s\nwant%s", died, got, f.kept())
	}
	for i, o := range s.ops[:died] {
		if o.name == "Order" && s.results[i].yes && c.State(o.r.ID) == 0 || o.name == "Cancel" && s.results[i].yes && c.State(o.a) != 3 {
			t.Fatalf("behind the call %d: %v was answered with true, and its state is %d", died, o, c.State(max(o.a, o.r.ID)))
		}
		if o.name == "Put" && s.results[i].e == api.OK && c.Where(o.a) < 0 {
			t.Fatalf("behind the call %d: %v was done, and the tote isn't there", died, o)
		}
		for _, x := range s.results[i].teles {
			if n := send(int(x.Dev), int(x.A), int(x.Seq)); !slices.Contains(s.notes[:whole], n) {
				t.Fatalf("behind the call %d: %v was told, and isn't noted", died, x)
			}
		}
	}
}

// TestP21_2_ItGoesOnBehindACrash: opened again, it does the rest of its story, as the words have it from these notes on.
func TestP21_2_ItGoesOnBehindACrash(t *testing.T) {
	for _, s := range stories(t) {
		for units := 0; units <= sizeOf(s.notes); units += 5 {
			p, died, whole := s.at(t, units)
			p = p.Crash()
			c, _ := Open(s.l, s.pause, p)
			d := &double{t: t, c: c, p: p, w: newWords(s.l, s.pause, s.notes[:whole])}
			for _, o := range s.ops[died:] {
				d.call(o)
			}
		}
	}
}

// TestP21_2_AgainAndAgain: the power goes now and then, and once more while it is opened.
func TestP21_2_AgainAndAgain(t *testing.T) {
	deaths := 0
	for at, l := range layouts() {
		for run := range 4 {
			rnd := rand.New(rand.NewSource(int64(7000 + 10*at + run)))
			r := newChance(l, 7000+10*at+run)
			d := newDouble(t, l, 2)
			for range 200 {
				if rnd.Intn(4) == 0 {
					d.p.Arm(rnd.Intn(30))
				}
				from, o := len(d.w.notes), r.op(d.w)
				got, want := o.onControl(t, &d.c, &d.p), o.onWords(&d.w)
				if got.e != api.ErrDead {
					if !got.same(want) {
						t.Fatalf("%v: %v, want %v", o, got, want)
					}
					d.same()
					continue
				}
				deaths++
				d.reopens(rnd, from)
			}
		}
	}
	if deaths < 150 {
		t.Errorf("%d deaths", deaths)
	}
}

// reopens opens a dead one, whose tape had so many notes ahead of the call in which it died.
func (d *double) reopens(rnd *rand.Rand, from int) {
	d.t.Helper()
	d.p = d.p.Crash()
	notes := d.p.Read()
	if many := len(notes); many < from || many >= len(d.w.notes) || !slices.Equal(notes, d.w.notes[:many]) {
		d.t.Fatalf("the tape has %v, want %d of %v at least, not all", notes, from, d.w.notes)
	}
	if rnd.Intn(2) == 0 && d.p.Size() > sizeOf(notes) {
		d.p.Arm(0)
		if c, e := Open(d.w.layout, d.w.pause, d.p); c != nil || e != api.ErrDead {
			d.t.Fatalf("Open without power: %d", e)
		}
		d.p = d.p.Crash()
	}
	c, e := Open(d.w.layout, d.w.pause, d.p)
	if e != api.OK {
		d.t.Fatalf("Open: %d", e)
	}
	d.c, d.w = c, newWords(d.w.layout, d.w.pause, notes)
	d.same()
}

// TestP21_1_ADeadOne: by each call that notes something; nothing of that is there, and each answers ErrDead.
func TestP21_1_ADeadOne(t *testing.T) {
	notes := []api.Note{put(5, 0), put(6, 2), order(1, 2, 6), order(2, 2, 5), mask(2, 1)}
	for _, o := range []op{putOp(7, 1), orderOp(3, 2, 7), cancelOp(1), faultOp(3), repairOp(2), tickOp(), doneOp(1, 7, 5), refuseOp(1, 7, 5)} {
		for units := range 5 {
			all := slices.Clone(notes)
			if o.name == "Hear" {
				all = append(all, send(1, 5, 7))
			}
			if o.name == "Order" {
				all = append(all, put(7, 1))
			}
			p := taped(t, all...)
			c, _ := Open(line(), 3, p)
			before := keptBy(c)
			p.Arm(units)
			if r := o.onControl(t, &c, &p); !r.same(result{e: api.ErrDead}) {
				t.Fatalf("%v with %d units: %v", o, units, r)
			}
			if got := keptBy(c); got != before || p.Size() != sizeOf(all)+units {
				t.Errorf("%v with %d units: %s, was %s", o, units, got, before)
			}
			isDead(t, c, p, nil)
			if c, e := Open(line(), 3, p.Crash()); e != api.OK || keptBy(c) != before {
				t.Errorf("%v with %d units: Open: %d", o, units, e)
			}
		}
	}
}

// TestP21_1_WithoutPowerNothingIsNoted: what notes nothing is answered as ever, and nobody dies of it.
func TestP21_1_WithoutPowerNothingIsNoted(t *testing.T) {
	p := taped(t, put(5, 0), order(1, 2, 5), order(2, 2, 6), cancel(2), mask(3, 1), send(1, 5, 7))
	c, _ := Open(line(), 1, p)
	p.Arm(0)
	d := &double{t: t, c: c, p: p, w: newWords(line(), 1, p.Read())}
	d.fails(api.ErrTwice, putOp(5, 2))
	d.fails(api.ErrHeld, putOp(6, 1))
	d.fails(api.ErrRange, putOp(6, 3), orderOp(-1, 2, 5), orderOp(9, 1, 5))
	d.fails(api.ErrTote, orderOp(9, 2, 6), orderOp(9, 2, 5))
	d.known(orderOp(1, 2, 5), cancelOp(2))
	d.fails(api.ErrNone, cancelOp(9))
	d.fails(api.ErrFar, faultOp(3), repairOp(1), doneOp(1, 8, 5), refuseOp(1, 7, 6))
	d.fails(api.ErrKind, teleOp(answer(api.TAsk, 1, 0, 0, 0)))
	d.ticks(move(1, 7, 5))
	d.ticks(move(1, 7, 5))
	if e := c.Hear(doneOp(1, 7, 5).data); e != api.ErrDead || !c.Dead() {
		t.Errorf("Hear: %d", e)
	}
}

// filled is a tape with these notes, and others ahead of them, so that there is room for so many bytes more, and at most 4 beside.
func filled(t *testing.T, left int, notes ...api.Note) *tape.Tape {
	t.Helper()
	room := api.MaxTape - left - sizeOf(notes)
	var all []api.Note
	if room%6 == 5 {
		all = append(all, order(100, 39, 30), cancel(100)) // 12 bytes
		all = append(all, order(200, 39, 30))              // 8
		room -= 20
	}
	for range room / 6 {
		all = append(all, mask(1, 0))
	}
	return taped(t, append(all, notes...)...)
}

// TestP21_1_AFullTape: its error is answered, and the controller is dead, of each call that notes something.
func TestP21_1_AFullTape(t *testing.T) {
	for _, way := range []struct {
		o     op
		notes []api.Note
	}{
		{putOp(7, 1), []api.Note{put(5, 0)}},
		{orderOp(3, 2, 5), []api.Note{put(5, 0)}},
		{cancelOp(1), []api.Note{put(5, 0), order(1, 2, 5)}},
		{doneOp(1, 7, 5), []api.Note{put(5, 0), send(1, 5, 7)}},
		{refuseOp(1, 7, 5), []api.Note{put(5, 0), send(1, 5, 7)}},
		{faultOp(1), nil},
		{repairOp(2), []api.Note{mask(2, 1)}},
		{tickOp(), []api.Note{put(5, 2), order(1, 2, 5)}},
		{tickOp(), []api.Note{put(5, 2)}},
	} {
		p := filled(t, 0, way.notes...)
		c, e := Open(line(), 3, p)
		if e != api.OK || api.MaxTape-p.Size() > 4 {
			t.Fatalf("Open: %d, %d bytes", e, p.Size())
		}
		before, size := keptBy(c), p.Size()
		if r := way.o.onControl(t, &c, &p); !r.same(result{e: api.ErrFull}) {
			t.Errorf("%v: %v", way.o, r)
		}
		if got := keptBy(c); got != before || p.Size() != size {
			t.Errorf("%v: %s, was %s", way.o, got, before)
		}
		isDead(t, c, p, nil)
		if c, e := Open(line(), 3, p.Crash()); e != api.OK || keptBy(c) != before {
			t.Errorf("%v: Open: %d", way.o, e)
		}
	}
}

// TestP21_1_NearlyFull: what there is room for is noted; and a tick may be done in part.
func TestP21_1_NearlyFull(t *testing.T) {
	p := filled(t, 6)
	c, _ := Open(star(), 3, p)
	if e := c.Put(5, 1); e != api.OK || c.Dead() {
		t.Errorf("Put: %d", e)
	}
	if e := c.Put(6, 2); e != api.ErrFull || !c.Dead() || c.Where(6) != -1 {
		t.Errorf("Put: %d", e)
	}
	p = filled(t, 5, put(5, 4), order(1, 4, 5)) // room for a JServed, and not for a JSend
	c, _ = Open(star(), 3, p)
	if l, e := c.Tick(); e != api.ErrFull || l != nil || !c.Dead() {
		t.Errorf("Tick: %d", e)
	}
	isDead(t, c, p, nil)
	if c, e := Open(star(), 3, p.Crash()); e != api.OK || c.State(1) != 2 || !slices.Equal(c.Served(4), []int{1}) {
		t.Errorf("Open: %d", e)
	}
}

// TestP21_4_OpenedAgainAndAgain: with the same tape, with its Crash, and with that one's.
func TestP21_4_OpenedAgainAndAgain(t *testing.T) {
	for _, s := range stories(t) {
		for units := 0; units <= sizeOf(s.notes); units += 3 {
			p, _, whole := s.at(t, units)
			f, _ := factsOf(s.l, s.notes[:whole])
			want := f.kept()
			p = p.Crash()
			for round := range 3 {
				for pause := range 2 {
					c, e := Open(s.l, 1+pause, p)
					if e != api.OK || lookAt(c) != want || !slices.Equal(p.Read(), s.notes[:whole]) {
						t.Fatalf("%d units, opened %d times: %d%s\nwant%s", units, round, e, lookAt(c), want)
					}
				}
				p = p.Crash()
			}
		}
	}
}

// TestP21_4_OpenedWhileItGoesOn: at any time the tape's Crash makes what the controller tells.
func TestP21_4_OpenedWhileItGoesOn(t *testing.T) {
	for at, l := range layouts() {
		chanceRun(t, l, 200, 8000+at, func(d *double, o op) {
			d.call(o)
			c, e := Open(l, 7, d.p.Crash())
			if e != api.OK || lookAt(c) != keptBy(d.c) {
				t.Fatalf("%v: Open: %d%s\nwant%s", o, e, lookAt(c), keptBy(d.c))
			}
		})
	}
}

func TestP6_NoCallPanics(t *testing.T) {
	sizes := append(outside(), 0, 1, 2, 3, 29, 30, 31, 39, 40, 119, 120, 121, 200, 65535, 65536, 1<<31-1, math.MaxInt-1)
	for _, l := range append(layouts(), noLayouts()...) {
		if c, e := Open(l, 3, nil); c != nil || e == api.OK {
			t.Errorf("Open without a tape: %d", e)
		}
		p := taped(t)
		c, e := Open(l, 3, p)
		if e != api.OK {
			continue
		}
		for _, a := range sizes {
			for _, b := range sizes {
				c.Put(a, b)
				c.Put(b, a)
				c.Order(api.Request{ID: a, Station: b, Tote: 1})
				c.Order(api.Request{ID: b, Station: 4, Tote: a})
			}
			c.Tick()
			c.Cancel(a)
			c.Where(a)
			c.Told(a)
			c.State(a)
			c.Served(a)
			c.Path(a)
			c.Requests()
			c.Down()
			c.Dead()
			c.Hear(make([]byte, max(0, min(a, 1000))))
		}
	}
}

func TestP7_TwoControllersShareNothing(t *testing.T) {
	for at, l := range layouts() {
		r, s := newChance(l, 9000+at), newChance(l, 9100+at)
		a, b := newDouble(t, l, 2), newDouble(t, l, 3)
		for range 150 {
			a.call(r.op(a.w))
			b.call(s.op(b.w))
			a.same()
		}
	}
}

// TestP7_AskingChangesNothing has two controllers, and asks the one alone between the calls.
func TestP7_AskingChangesNothing(t *testing.T) {
	for at, l := range layouts() {
		p := tape.New()
		quiet, _ := Open(l, 2, p)
		r, d := newChance(l, 9500+at), newDouble(t, l, 2)
		for range 200 {
			o := r.op(d.w)
			if o.name == "Open" {
				continue
			}
			if got, want := o.onControl(t, &quiet, &p), d.call(o); !got.same(want) {
				t.Fatalf("%v: %v, and %v where something was asked", o, got, want)
			}
		}
	}
}

// TestP7_AnswersDependOnNothingElse: the same calls are answered alike, again and again.
func TestP7_AnswersDependOnNothingElse(t *testing.T) {
	for _, s := range stories(t) {
		for range 3 {
			p := tape.New()
			c, _ := Open(s.l, s.pause, p)
			for i, o := range s.ops {
				if r := o.onControl(t, &c, &p); !r.same(s.results[i]) {
					t.Fatalf("%v: %v, was %v", fmt.Sprint(s.ops[:i+1]), r, s.results[i])
				}
			}
		}
	}
}
