package shuttle

import (
	"fmt"
	"math"
	"math/rand"
	"testing"

	"stillage/api"
)

// The states by their numbers, as the chapter has them.
const (
	wIdle     = 0
	wToPick   = 1
	wPicking  = 2
	wToDrop   = 3
	wDropping = 4
	wStalled  = 5
)

// byWords is a shuttle as the chapter's words have it, plain, and apart from the program: what it has still to do stands
// in a list of steps, and the patience that is left is counted down.
type byWords struct {
	n, patience int
	at          int
	steps       []step // the first is the state's
	left        int    // ticks that may still go by with an order
	stuck       bool
	jobs        int
}

// step is one of a job's four: in which state it is, what is ordered, and the tote that the shuttle has meanwhile.
type step struct {
	state int
	order Order
	load  int
}

func (w *byWords) place(p int) bool { return 0 <= p && p <= w.n-1 }

func (w *byWords) state() int {
	switch {
	case len(w.steps) == 0:
		return wIdle
	case w.stuck:
		return wStalled
	}
	return w.steps[0].state
}

func (w *byWords) load() int {
	if len(w.steps) == 0 {
		return 0
	}
	return w.steps[0].load
}

// begin has the first step with all its patience; ways to where it stands fall away.
func (w *byWords) begin() {
	for len(w.steps) > 0 && w.steps[0].order == (Order{1, w.at}) {
		w.steps = w.steps[1:]
	}
	w.left = w.patience
	w.stuck = false
}

func (w *byWords) assign(j api.Job) api.Errno {
	if j.Tote <= 0 || j.Tote >= 31 || !w.place(j.From) || !w.place(j.To) {
		return api.ErrRange
	}
	if w.state() != wIdle {
		return api.ErrState
	}
	w.steps = []step{
		{wToPick, Order{1, j.From}, 0},
		{wPicking, Order{2, j.Tote}, 0},
		{wToDrop, Order{1, j.To}, j.Tote},
		{wDropping, Order{3, j.Tote}, j.Tote},
	}
	w.begin()
	return api.OK
}

func (w *byWords) tick() Order {
	if w.state() == wIdle || w.state() == wStalled {
		return Order{0, 0}
	}
	if w.left == 0 {
		w.stuck = true
		return Order{0, 0}
	}
	w.left--
	return w.steps[0].order
}

func (w *byWords) moved(place int) api.Errno {
	if !w.place(place) {
		return api.ErrRange
	}
	if s := w.state(); s != wToPick && s != wToDrop {
		return api.ErrState
	}
	w.at = place
	w.begin()
	return api.OK
}

func (w *byWords) handled(state, tote int) api.Errno {
	if w.state() != state {
		return api.ErrState
	}
	if w.steps[0].order.What != tote {
		return api.ErrTote
	}
	w.steps = w.steps[1:]
	w.begin()
	return api.OK
}

func (w *byWords) picked(tote int) api.Errno { return w.handled(wPicking, tote) }

func (w *byWords) dropped(tote int) api.Errno {
	e := w.handled(wDropping, tote)
	if e == api.OK {
		w.jobs++
	}
	return e
}

func (w *byWords) reset() api.Errno {
	if w.state() != wStalled {
		return api.ErrState
	}
	w.begin()
	return api.OK
}

// op is a call of a shuttle that may change it.
type op struct {
	name string
	n    int
	job  api.Job
}

func assignOp(tote, from, to int) op { return op{"Assign", 0, api.Job{Tote: tote, From: from, To: to}} }
func tickOp() op                     { return op{name: "Tick"} }
func movedOp(place int) op           { return op{name: "Moved", n: place} }
func pickedOp(tote int) op           { return op{name: "Picked", n: tote} }
func droppedOp(tote int) op          { return op{name: "Dropped", n: tote} }
func resetOp() op                    { return op{name: "Reset"} }

// result is what a call answers.
type result struct {
	order Order
	e     api.Errno
}

func (o op) onShuttle(s *Shuttle) (r result) {
	switch o.name {
	case "Assign":
		r.e = s.Assign(o.job)
	case "Tick":
		r.order = s.Tick()
	case "Moved":
		r.e = s.Moved(o.n)
	case "Picked":
		r.e = s.Picked(o.n)
	case "Dropped":
		r.e = s.Dropped(o.n)
	case "Reset":
		r.e = s.Reset()
	}
	return r
}

func (o op) onWords(w *byWords) (r result) {
	switch o.name {
	case "Assign":
		r.e = w.assign(o.job)
	case "Tick":
		r.order = w.tick()
	case "Moved":
		r.e = w.moved(o.n)
	case "Picked":
		r.e = w.picked(o.n)
	case "Dropped":
		r.e = w.dropped(o.n)
	case "Reset":
		r.e = w.reset()
	}
	return r
}

// look is all that can be asked of a shuttle.
type look struct {
	state, place, load, done int
}

func lookAt(s *Shuttle) look {
	return look{s.State(), s.Place(), s.Load(), s.Done()}
}

func (w *byWords) look() look {
	return look{w.state(), w.at, w.load(), w.jobs}
}

// outside are numbers that are neither totes nor places, nor how many there are of them, nor a patience.
func outside() []int {
	return []int{-1, -2, -40, 1001, 1002, 1 << 16, 1 << 32, 1<<32 + 1, math.MinInt, math.MinInt + 1, math.MaxInt - 1, math.MaxInt}
}

func newShuttle(t testing.TB, n, at, patience int) *Shuttle {
	t.Helper()
	s, e := New(n, at, patience)
	if s == nil || e != api.OK {
		t.Fatalf("New(%d, %d, %d): %v, %d", n, at, patience, s, e)
	}
	return s
}

// double has a shuttle and its plain form side by side, and holds each call of the one against the other.
type double struct {
	t testing.TB
	s *Shuttle
	w *byWords
}

func newDouble(t testing.TB, n, at, patience int) *double {
	t.Helper()
	d := &double{t, newShuttle(t, n, at, patience), &byWords{n: n, patience: patience, at: at}}
	d.same()
	return d
}

func (d *double) same() {
	d.t.Helper()
	if got, want := lookAt(d.s), d.w.look(); got != want {
		d.t.Fatalf("n %d, patience %d: %+v, not %+v", d.w.n, d.w.patience, got, want)
	}
}

func (d *double) call(o op) result {
	d.t.Helper()
	before, left := d.w.look(), d.w.left
	got, want := o.onShuttle(d.s), o.onWords(d.w)
	if got != want {
		d.t.Fatalf("n %d, patience %d (%d left), %+v: %v: %v, not %v", d.w.n, d.w.patience, left, before, o, got, want)
	}
	d.same()
	return got
}

// does calls, and wants no error, and this state, place and load behind it.
func (d *double) does(o op, state, place, load int) {
	d.t.Helper()
	before := lookAt(d.s)
	if r := d.call(o); r.e != api.OK {
		d.t.Fatalf("%+v: %v: %d", before, o, r.e)
	}
	if l := lookAt(d.s); l.state != state || l.place != place || l.load != load {
		d.t.Fatalf("%+v: %v: %+v, not %d, %d, %d", before, o, l, state, place, load)
	}
}

// ticks wants this order for so many ticks, and nothing changed by them.
func (d *double) ticks(times, kind, what int) {
	d.t.Helper()
	before := lookAt(d.s)
	for i := range times {
		if r := d.call(tickOp()); r.order != (Order{kind, what}) {
			d.t.Fatalf("%+v: tick %d: %v, not %d, %d", before, i+1, r.order, kind, what)
		}
		if l := lookAt(d.s); l != before {
			d.t.Fatalf("%+v: tick %d: %+v", before, i+1, l)
		}
	}
}

// stalls wants that the next tick stalls it.
func (d *double) stalls() {
	d.t.Helper()
	before := lookAt(d.s)
	if r := d.call(tickOp()); r.order != (Order{}) {
		d.t.Fatalf("%+v: %v, not stalled", before, r.order)
	}
	before.state = wStalled
	if l := lookAt(d.s); l != before {
		d.t.Fatalf("stalled: %+v, not %+v", l, before)
	}
}

func (d *double) done(jobs int) {
	d.t.Helper()
	if d.s.Done() != jobs {
		d.t.Fatalf("Done: %d, not %d", d.s.Done(), jobs)
	}
}

// refused wants an error, and nothing changed, neither what can be asked nor what is kept.
func (d *double) refused(o op, e api.Errno) {
	d.t.Helper()
	was := *d.s
	if r := d.call(o); r != (result{e: e}) {
		d.t.Fatalf("%+v: %v: %v, not %d", d.w.look(), o, r, e)
	}
	if *d.s != was {
		d.t.Fatalf("%v was refused, but %+v became %+v", o, was, *d.s)
	}
}

// The states of a shuttle of four places with the job of tote 7 from 1 to 3, as the tests go through them.
const (
	theTote = 7
	theFrom = 1
	theTo   = 3
)

// inState brings a shuttle of four places into a state by the shortest way.
func inState(t testing.TB, state, patience int) *double {
	t.Helper()
	d := newDouble(t, 4, 0, patience)
	if state >= wToPick {
		d.does(assignOp(theTote, theFrom, theTo), wToPick, 0, 0)
	}
	if state >= wPicking {
		d.does(movedOp(theFrom), wPicking, theFrom, 0)
	}
	if state >= wToDrop {
		d.does(pickedOp(theTote), wToDrop, theFrom, theTote)
	}
	if state >= wDropping {
		d.does(movedOp(theTo), wDropping, theTo, theTote)
	}
	return d
}

// stalledIn brings a shuttle of four places to stall in a state.
func stalledIn(t testing.TB, state, patience int) *double {
	t.Helper()
	d := inState(t, state, patience)
	order := orderOf(state)
	d.ticks(patience, order.Kind, order.What)
	d.stalls()
	return d
}

// orderOf is what the job of the tests asks for in a state.
func orderOf(state int) Order {
	switch state {
	case wToPick:
		return Order{1, theFrom}
	case wPicking:
		return Order{2, theTote}
	case wToDrop:
		return Order{1, theTo}
	case wDropping:
		return Order{3, theTote}
	}
	return Order{}
}

// everyState calls f with a shuttle in each of its states, and stalled in each that it can have stalled in.
func everyState(t *testing.T, patience int, f func(d *double, state int)) {
	t.Helper()
	for state := wIdle; state <= wDropping; state++ {
		f(inState(t, state, patience), state)
		if state != wIdle {
			f(stalledIn(t, state, patience), wStalled)
		}
	}
}

// working are the states in which a shuttle has a job, and isn't stalled.
func working() []int {
	return []int{wToPick, wPicking, wToDrop, wDropping}
}

func TestP14_1_NewRefusesWhatIsOutside(t *testing.T) {
	refused := func(n, at, patience int) {
		t.Helper()
		if s, e := New(n, at, patience); s != nil || e != api.ErrRange {
			t.Errorf("New(%d, %d, %d): %v, %d", n, at, patience, s, e)
		}
	}
	for _, n := range append(outside(), 0, 41, 42, 1000) {
		refused(n, 0, 1)
		refused(n, n-1, 1)
		refused(n, 0, 1000)
		refused(n, 0, 0)
	}
	for n := 1; n <= 40; n++ {
		for _, at := range append(outside(), n, n+1, 40, 41) {
			refused(n, at, 1)
			refused(n, at, 1000)
		}
		for _, patience := range append(outside(), 0) {
			refused(n, 0, patience)
			refused(n, n-1, patience)
		}
	}
}

func TestP14_1_NewIsIdleThere(t *testing.T) {
	for n := 1; n <= 40; n++ {
		for at := range n {
			for _, patience := range []int{1, 2, 999, 1000} {
				d := newDouble(t, n, at, patience)
				if l := lookAt(d.s); l != (look{wIdle, at, 0, 0}) {
					t.Fatalf("New(%d, %d, %d): %+v", n, at, patience, l)
				}
				d.ticks(3, None, 0)
			}
		}
	}
}

func TestP14_1_Example(t *testing.T) {
	d := newDouble(t, 5, 0, 3)
	d.does(assignOp(7, 2, 4), wToPick, 0, 0)
	d.ticks(1, Go, 2)
	d.does(movedOp(2), wPicking, 2, 0)
	d.ticks(1, Pick, 7)
	d.does(pickedOp(7), wToDrop, 2, 7)
	d.does(movedOp(4), wDropping, 4, 7)
	d.does(droppedOp(7), wIdle, 4, 0)
	d.done(1)
}

func TestP14_1_TheKindsOfOrders(t *testing.T) {
	if None != 0 || Go != 1 || Pick != 2 || Drop != 3 {
		t.Errorf("%d, %d, %d, %d", None, Go, Pick, Drop)
	}
}

func TestP14_1_AJobInItsOrder(t *testing.T) {
	d := newDouble(t, 6, 1, 2)
	d.ticks(5, None, 0)
	d.does(assignOp(12, 4, 2), wToPick, 1, 0)
	d.ticks(2, Go, 4)
	d.does(movedOp(2), wToPick, 2, 0)
	d.ticks(1, Go, 4)
	d.does(movedOp(3), wToPick, 3, 0)
	d.ticks(2, Go, 4)
	d.does(movedOp(4), wPicking, 4, 0)
	d.ticks(2, Pick, 12)
	d.done(0)
	d.does(pickedOp(12), wToDrop, 4, 12)
	d.ticks(2, Go, 2)
	d.does(movedOp(3), wToDrop, 3, 12)
	d.ticks(2, Go, 2)
	d.does(movedOp(2), wDropping, 2, 12)
	d.ticks(2, Drop, 12)
	d.done(0)
	d.does(droppedOp(12), wIdle, 2, 0)
	d.done(1)
	d.ticks(5, None, 0)
}

func TestP14_1_JobsOneBehindTheOther(t *testing.T) {
	d := newDouble(t, 5, 2, 3)
	at := 2
	for i := range 300 {
		tote, from, to := 1+i*7%30, i*3%5, i*4%5
		d.call(assignOp(tote, from, to))
		if from != at {
			d.ticks(1, Go, from)
			d.does(movedOp(from), wPicking, from, 0)
		}
		d.ticks(2, Pick, tote)
		d.call(pickedOp(tote))
		if to != from {
			d.ticks(3, Go, to)
			d.does(movedOp(to), wDropping, to, tote)
		}
		d.ticks(1, Drop, tote)
		d.does(droppedOp(tote), wIdle, to, 0)
		d.done(i + 1)
		at = to
	}
}

func TestP14_1_OnePlace(t *testing.T) {
	d := newDouble(t, 1, 0, 1)
	for i := range 5 {
		d.does(assignOp(30, 0, 0), wPicking, 0, 0)
		d.ticks(1, Pick, 30)
		d.refused(movedOp(0), api.ErrState)
		d.refused(movedOp(1), api.ErrRange)
		d.does(pickedOp(30), wDropping, 0, 30)
		d.ticks(1, Drop, 30)
		d.does(droppedOp(30), wIdle, 0, 0)
		d.done(i + 1)
	}
}

func TestP14_1_FirstAndLastPlace(t *testing.T) {
	for n := 2; n <= 40; n++ {
		d := newDouble(t, n, 0, 1)
		d.does(assignOp(1, n-1, 0), wToPick, 0, 0)
		d.ticks(1, Go, n-1)
		d.does(movedOp(n-1), wPicking, n-1, 0)
		d.does(pickedOp(1), wToDrop, n-1, 1)
		d.ticks(1, Go, 0)
		d.does(movedOp(0), wDropping, 0, 1)
		d.does(droppedOp(1), wIdle, 0, 0)
	}
}

func TestP14_1_EachTote(t *testing.T) {
	d := newDouble(t, 3, 0, 2)
	for tote := 1; tote <= 30; tote++ {
		d.does(assignOp(tote, 1, 2), wToPick, d.s.Place(), 0)
		d.does(movedOp(1), wPicking, 1, 0)
		d.ticks(1, Pick, tote)
		d.does(pickedOp(tote), wToDrop, 1, tote)
		d.does(movedOp(2), wDropping, 2, tote)
		d.ticks(1, Drop, tote)
		d.does(droppedOp(tote), wIdle, 2, 0)
		d.done(tote)
	}
}

func TestP14_1_FromWhereItStands(t *testing.T) {
	for at := range 4 {
		for to := range 4 {
			d := newDouble(t, 4, at, 2)
			d.does(assignOp(3, at, to), wPicking, at, 0)
			d.ticks(2, Pick, 3)
			d.stalls()
		}
	}
}

func TestP14_1_ToWhereItStands(t *testing.T) {
	for from := range 4 {
		d := newDouble(t, 4, 0, 2)
		d.call(assignOp(3, from, from))
		if from != 0 {
			d.does(movedOp(from), wPicking, from, 0)
		}
		d.ticks(2, Pick, 3)
		d.does(pickedOp(3), wDropping, from, 3)
		d.ticks(2, Drop, 3)
		d.stalls()
		d.does(resetOp(), wDropping, from, 3)
		d.does(droppedOp(3), wIdle, from, 0)
		d.done(1)
	}
}

// TestP14_1_ToIsPassedOnTheWay has the job's To reached ahead of the tote, and its From behind it: neither counts then.
func TestP14_1_ToIsPassedOnTheWay(t *testing.T) {
	d := newDouble(t, 4, 0, 2)
	d.does(assignOp(3, 2, 1), wToPick, 0, 0)
	d.does(movedOp(1), wToPick, 1, 0)
	d.ticks(1, Go, 2)
	d.does(movedOp(2), wPicking, 2, 0)
	d.does(pickedOp(3), wToDrop, 2, 3)
	d.does(movedOp(3), wToDrop, 3, 3)
	d.does(movedOp(2), wToDrop, 2, 3)
	d.ticks(1, Go, 1)
	d.does(movedOp(1), wDropping, 1, 3)
}

func TestP14_1_AssignedAtItsTo(t *testing.T) {
	d := newDouble(t, 4, 1, 2)
	d.does(assignOp(3, 2, 1), wToPick, 1, 0)
	d.ticks(2, Go, 2)
	d.does(movedOp(1), wToPick, 1, 0)
	d.ticks(2, Go, 2)
	d.stalls()
}

// TestP14_1_MovedElsewhere: each move, also the one to where it stands, begins the ticks anew.
func TestP14_1_MovedElsewhere(t *testing.T) {
	for _, state := range []int{wToPick, wToDrop} {
		for _, patience := range []int{1, 2, 7, 1000} {
			d := inState(t, state, patience)
			order, load := orderOf(state), d.s.Load()
			for _, place := range []int{2, 2, 0, 0, 2} {
				d.ticks(patience, order.Kind, order.What)
				d.does(movedOp(place), state, place, load)
			}
			d.ticks(patience, order.Kind, order.What)
			d.does(movedOp(d.s.Place()), state, d.s.Place(), load)
			d.ticks(patience, order.Kind, order.What)
			d.stalls()
		}
	}
}

// TestP14_1_NoTickInTheNewState lets ticks go by in each state, and finds the next one with all its patience.
func TestP14_1_NoTickInTheNewState(t *testing.T) {
	for _, patience := range []int{1, 2, 5, 1000} {
		for used := range min(patience, 6) + 1 {
			d := newDouble(t, 4, 0, patience)
			d.ticks(used, None, 0)
			d.does(assignOp(theTote, theFrom, theTo), wToPick, 0, 0)
			d.ticks(used, Go, theFrom)
			d.does(movedOp(theFrom), wPicking, theFrom, 0)
			d.ticks(used, Pick, theTote)
			d.does(pickedOp(theTote), wToDrop, theFrom, theTote)
			d.ticks(used, Go, theTo)
			d.does(movedOp(theTo), wDropping, theTo, theTote)
			d.ticks(used, Drop, theTote)
			d.does(droppedOp(theTote), wIdle, theTo, 0)
			d.ticks(used, None, 0)
			d.does(assignOp(theTote, theFrom, theTo), wToPick, theTo, 0)
			d.ticks(patience, Go, theFrom)
			d.does(movedOp(theFrom), wPicking, theFrom, 0)
			d.ticks(patience, Pick, theTote)
			d.does(pickedOp(theTote), wToDrop, theFrom, theTote)
			d.ticks(patience, Go, theTo)
			d.does(movedOp(theTo), wDropping, theTo, theTote)
			d.ticks(patience, Drop, theTote)
			d.stalls()
		}
	}
}

func TestP14_1_NoTickBehindWhatIsLeftOut(t *testing.T) {
	for _, patience := range []int{1, 3, 1000} {
		d := newDouble(t, 4, 2, patience)
		d.ticks(patience+5, None, 0)
		d.does(assignOp(9, 2, 2), wPicking, 2, 0)
		d.ticks(patience, Pick, 9)
		d.does(pickedOp(9), wDropping, 2, 9)
		d.ticks(patience, Drop, 9)
		d.does(droppedOp(9), wIdle, 2, 0)
		d.does(assignOp(9, 2, 2), wPicking, 2, 0)
		d.ticks(patience, Pick, 9)
		d.stalls()
	}
}

func TestP14_1_AsManyTicksAsThePatience(t *testing.T) {
	for _, patience := range []int{1, 2, 3, 10, 999, 1000} {
		for _, state := range working() {
			d := inState(t, state, patience)
			order := orderOf(state)
			d.ticks(patience, order.Kind, order.What)
			if d.s.State() != state {
				t.Fatalf("%d, not %d", d.s.State(), state)
			}
			d.stalls()
			d.ticks(5, None, 0)
		}
	}
}

func TestP14_1_TickWhenIdleAndWhenStalled(t *testing.T) {
	idle := newDouble(t, 3, 1, 1)
	idle.ticks(3000, None, 0)
	idle.does(assignOp(1, 0, 2), wToPick, 1, 0)
	idle.ticks(1, Go, 0)
	for _, state := range working() {
		d := stalledIn(t, state, 2)
		d.ticks(3000, None, 0)
		place, load, order := d.s.Place(), d.s.Load(), orderOf(state)
		d.does(resetOp(), state, place, load)
		d.ticks(2, order.Kind, order.What)
		d.stalls()
	}
}

func TestP14_1_LoadInEachState(t *testing.T) {
	loads := []int{0, 0, 0, theTote, theTote}
	for state, load := range loads {
		d := inState(t, state, 2)
		if d.s.Load() != load {
			t.Errorf("state %d: Load: %d, not %d", state, d.s.Load(), load)
		}
		if state == wIdle {
			continue
		}
		d = stalledIn(t, state, 2)
		if d.s.State() != wStalled || d.s.Load() != load {
			t.Errorf("stalled in %d: Load: %d, not %d", state, d.s.Load(), load)
		}
		d.call(resetOp())
		if d.s.Load() != load {
			t.Errorf("reset to %d: Load: %d, not %d", state, d.s.Load(), load)
		}
	}
}

// TestP14_1_LoadBehindAJob: what was stalled once, in a state with a tote, has none when it is idle or on its way again.
func TestP14_1_LoadBehindAJob(t *testing.T) {
	d := stalledIn(t, wDropping, 1)
	d.does(resetOp(), wDropping, theTo, theTote)
	d.does(droppedOp(theTote), wIdle, theTo, 0)
	d.does(assignOp(8, 0, 0), wToPick, theTo, 0)
	d.ticks(1, Go, 0)
	d.stalls()
	if d.s.Load() != 0 {
		t.Errorf("Load: %d", d.s.Load())
	}
	d.does(resetOp(), wToPick, theTo, 0)
	d.does(movedOp(0), wPicking, 0, 0)
	d.does(pickedOp(8), wDropping, 0, 8)
}

func TestP14_1_ResetGoesOnWhereItWas(t *testing.T) {
	for _, patience := range []int{1, 2, 1000} {
		for _, state := range working() {
			d := stalledIn(t, state, patience)
			place, load, order := d.s.Place(), d.s.Load(), orderOf(state)
			d.does(resetOp(), state, place, load)
			d.refused(resetOp(), api.ErrState)
			d.ticks(patience, order.Kind, order.What)
			d.stalls()
			d.does(resetOp(), state, place, load)
			switch state {
			case wToPick:
				d.does(movedOp(theFrom), wPicking, theFrom, 0)
			case wPicking:
				d.does(pickedOp(theTote), wToDrop, theFrom, theTote)
			case wToDrop:
				d.does(movedOp(theTo), wDropping, theTo, theTote)
			case wDropping:
				d.does(droppedOp(theTote), wIdle, theTo, 0)
				d.done(1)
			}
		}
	}
}

// TestP14_1_AssignOfWhatIsOutside is in every state: ErrRange comes ahead of ErrState.
func TestP14_1_AssignOfWhatIsOutside(t *testing.T) {
	everyState(t, 2, func(d *double, state int) {
		for _, tote := range append(outside(), 0, 31, 32, 40) {
			d.refused(assignOp(tote, 0, 3), api.ErrRange)
			d.refused(assignOp(tote, -1, 4), api.ErrRange)
		}
		for _, place := range append(outside(), 4, 5, 39, 40) {
			d.refused(assignOp(1, place, 0), api.ErrRange)
			d.refused(assignOp(30, 0, place), api.ErrRange)
			d.refused(assignOp(theTote, place, place), api.ErrRange)
		}
	})
	for _, n := range []int{1, 2, 39, 40} {
		d := newDouble(t, n, 0, 1)
		d.refused(assignOp(1, n, 0), api.ErrRange)
		d.refused(assignOp(1, 0, n), api.ErrRange)
		d.refused(assignOp(1, -1, n-1), api.ErrRange)
		d.refused(assignOp(1, n-1, -1), api.ErrRange)
		d.refused(assignOp(31, n-1, n-1), api.ErrRange)
	}
}

func TestP14_1_AssignWhenNotIdle(t *testing.T) {
	everyState(t, 2, func(d *double, state int) {
		if state == wIdle {
			return
		}
		for tote := 1; tote <= 30; tote++ {
			for from := range 4 {
				d.refused(assignOp(tote, from, 3-from), api.ErrState)
			}
		}
	})
}

func TestP14_1_MovedToNoPlace(t *testing.T) {
	everyState(t, 2, func(d *double, state int) {
		for _, place := range append(outside(), 4, 5, 39, 40) {
			d.refused(movedOp(place), api.ErrRange)
		}
	})
	for _, n := range []int{2, 39, 40} {
		d := newDouble(t, n, 0, 1)
		d.refused(movedOp(n), api.ErrRange)
		d.does(assignOp(1, n-1, 0), wToPick, 0, 0)
		d.refused(movedOp(n), api.ErrRange)
		d.refused(movedOp(-1), api.ErrRange)
	}
}

func TestP14_1_MovedWhenNotOnTheWay(t *testing.T) {
	everyState(t, 2, func(d *double, state int) {
		if state == wToPick || state == wToDrop {
			return
		}
		for place := range 4 {
			d.refused(movedOp(place), api.ErrState)
		}
	})
}

// TestP14_1_PickedAndDroppedInAnotherState is with every number: ErrState comes ahead of ErrTote.
func TestP14_1_PickedAndDroppedInAnotherState(t *testing.T) {
	everyState(t, 2, func(d *double, state int) {
		for _, tote := range append(outside(), 0, 1, theTote, 30, 31) {
			if state != wPicking {
				d.refused(pickedOp(tote), api.ErrState)
			}
			if state != wDropping {
				d.refused(droppedOp(tote), api.ErrState)
			}
		}
	})
}

func TestP14_1_PickedAndDroppedAnotherTote(t *testing.T) {
	picking, dropping := inState(t, wPicking, 2), inState(t, wDropping, 2)
	for _, tote := range append(outside(), 0, 1, theTote-1, theTote+1, 30, 31, theTote+256, theTote+1<<32, -theTote) {
		picking.refused(pickedOp(tote), api.ErrTote)
		dropping.refused(droppedOp(tote), api.ErrTote)
	}
	picking.does(pickedOp(theTote), wToDrop, theFrom, theTote)
	dropping.does(droppedOp(theTote), wIdle, theTo, 0)
}

// TestP14_1_TheToteOfTheJobBefore: only the tote of the job at hand counts.
func TestP14_1_TheToteOfTheJobBefore(t *testing.T) {
	d := inState(t, wDropping, 2)
	d.does(droppedOp(theTote), wIdle, theTo, 0)
	d.refused(droppedOp(theTote), api.ErrState)
	d.does(assignOp(8, theTo, 0), wPicking, theTo, 0)
	d.refused(pickedOp(theTote), api.ErrTote)
	d.does(pickedOp(8), wToDrop, theTo, 8)
	d.refused(pickedOp(8), api.ErrState)
	d.does(movedOp(0), wDropping, 0, 8)
	d.refused(droppedOp(theTote), api.ErrTote)
	d.does(droppedOp(8), wIdle, 0, 0)
	d.done(2)
}

func TestP14_1_ResetWhenNotStalled(t *testing.T) {
	for used := range 3 {
		for state := wIdle; state <= wDropping; state++ {
			d := inState(t, state, 2)
			order := orderOf(state)
			d.ticks(used, order.Kind, order.What)
			d.refused(resetOp(), api.ErrState)
			if state != wIdle {
				d.ticks(2-used, order.Kind, order.What)
				d.stalls()
			}
		}
	}
}

// TestP14_1_WhatIsRefusedLetsTheTicksBe has every wrong call between the last order and the tick that stalls it.
func TestP14_1_WhatIsRefusedLetsTheTicksBe(t *testing.T) {
	wrong := map[int][]op{
		wToPick:   {pickedOp(theTote), droppedOp(theTote)},
		wPicking:  {movedOp(theFrom), movedOp(theTo), pickedOp(8), droppedOp(theTote)},
		wToDrop:   {pickedOp(theTote), droppedOp(theTote)},
		wDropping: {movedOp(theFrom), movedOp(theTo), pickedOp(theTote), droppedOp(8)},
	}
	for _, state := range working() {
		both := append(wrong[state], resetOp(), movedOp(4), movedOp(-1), assignOp(1, 1, 1), assignOp(0, 0, 0), assignOp(1, 4, 0))
		for _, o := range both {
			d := inState(t, state, 3)
			order := orderOf(state)
			d.ticks(3, order.Kind, order.What)
			if r := d.call(o); r.e == api.OK {
				t.Fatalf("state %d: %v is allowed", state, o)
			}
			d.stalls()
		}
	}
}

// changes are calls that may change a shuttle of two places with two totes, and some that are always wrong.
func changes() []op {
	return []op{
		assignOp(1, 0, 0), assignOp(1, 0, 1), assignOp(1, 1, 0), assignOp(2, 1, 1), tickOp(), movedOp(0), movedOp(1),
		pickedOp(1), pickedOp(2), droppedOp(1), droppedOp(2), resetOp(), assignOp(0, 2, 2), movedOp(2),
	}
}

// everyList calls each list of so many calls on a shuttle that has been brought to where it is by others.
func everyList(d *double, length int) {
	if length == 0 {
		return
	}
	s, w := *d.s, *d.w
	for _, o := range changes() {
		d.call(o)
		everyList(d, length-1)
		*d.s, *d.w = s, w
	}
}

func TestP14_1_EveryShortListOfCalls(t *testing.T) {
	for patience := 1; patience <= 2; patience++ {
		for at := range 2 {
			everyList(newDouble(t, 2, at, patience), 5)
		}
	}
}

// chanceOp is a call by chance: now what the state asks for, now a tick, now any.
func chanceOp(rnd *rand.Rand, d *double) op {
	place, tote := rnd.Intn(d.w.n), 1+rnd.Intn(30)
	if len(d.w.steps) > 0 && rnd.Intn(2) == 0 {
		place = d.w.steps[0].order.What
		tote = d.w.steps[0].order.What
	}
	if rnd.Intn(15) == 0 {
		wrong := append(outside(), 0, 31, d.w.n)
		place, tote = wrong[rnd.Intn(len(wrong))], wrong[rnd.Intn(len(wrong))]
	}
	switch rnd.Intn(8) {
	case 0:
		return assignOp(tote, rnd.Intn(d.w.n), place)
	case 1:
		return movedOp(place)
	case 2:
		return pickedOp(tote)
	case 3:
		return droppedOp(tote)
	case 4:
		return resetOp()
	case 5:
		return asked(d, place, tote)
	}
	return tickOp()
}

// asked is a call that the state asks for, with these numbers.
func asked(d *double, place, tote int) op {
	switch d.w.state() {
	case wToPick, wToDrop:
		return movedOp(place)
	case wPicking:
		return pickedOp(tote)
	case wDropping:
		return droppedOp(tote)
	case wStalled:
		return resetOp()
	}
	return assignOp(tote, place, (place+1)%max(d.w.n, 1))
}

// chanceRun calls f with a double and call by call what comes by chance.
func chanceRun(t *testing.T, n, patience, calls, seed int, f func(d *double, o op)) {
	t.Helper()
	rnd := rand.New(rand.NewSource(int64(seed)))
	d := newDouble(t, n, rnd.Intn(n), patience)
	for range calls {
		f(d, chanceOp(rnd, d))
	}
}

func TestP14_1_LongListsOfCalls(t *testing.T) {
	answered := map[string]int{}
	for _, n := range []int{1, 2, 3, 5, 40} {
		for patience := 1; patience <= 5; patience++ {
			for run := range 4 {
				chanceRun(t, n, patience, 4000, 1000*n+10*patience+run, func(d *double, o op) {
					state := d.s.State()
					r := d.call(o)
					answered[fmt.Sprint(o.name, " in ", state, ": ", int(r.e))]++
				})
			}
		}
	}
	for state := wIdle; state <= wStalled; state++ {
		for _, o := range []op{assignOp(1, 0, 0), tickOp(), movedOp(0), pickedOp(0), droppedOp(0), resetOp()} {
			for _, e := range errorsIn(o, state) {
				if way := fmt.Sprint(o.name, " in ", state, ": ", int(e)); answered[way] < 100 {
					t.Errorf("%s was answered %d times", way, answered[way])
				}
			}
		}
	}
}

// errorsIn are the answers that a call can have in a state.
func errorsIn(o op, state int) []api.Errno {
	var all []api.Errno
	if o.name == "Assign" || o.name == "Moved" {
		all = append(all, api.ErrRange)
	}
	may := map[string][]int{"Assign": {wIdle}, "Tick": {0, 1, 2, 3, 4, 5}, "Moved": {wToPick, wToDrop}, "Picked": {wPicking}, "Dropped": {wDropping}, "Reset": {wStalled}}
	for _, s := range may[o.name] {
		if s != state {
			continue
		}
		if o.name == "Picked" || o.name == "Dropped" {
			all = append(all, api.ErrTote)
		}
		return append(all, api.OK)
	}
	return append(all, api.ErrState)
}

func TestP14_1_WhatIsRefusedChangesNothing(t *testing.T) {
	for _, n := range []int{1, 2, 4, 40} {
		chanceRun(t, n, 3, 20000, 5000+n, func(d *double, o op) {
			was := *d.s
			r := d.call(o)
			if r.e != api.OK && *d.s != was {
				t.Fatalf("%v: %d: %+v became %+v", o, r.e, was, *d.s)
			}
		})
	}
}

// devices do what a shuttle orders: an order is done so many ticks behind the first time that it is told.
type devices struct {
	late  func() int
	order Order
	toGo  int
}

// hear takes an order; if it is done now, the shuttle is told.
func (v *devices) hear(t *testing.T, s *Shuttle, o Order) {
	t.Helper()
	if o != v.order {
		v.order, v.toGo = o, v.late()
	}
	if v.toGo > 0 {
		v.toGo--
		return
	}
	v.order = Order{}
	var e api.Errno
	switch o.Kind {
	case Go:
		e = s.Moved(o.What)
	case Pick:
		e = s.Picked(o.What)
	case Drop:
		e = s.Dropped(o.What)
	}
	if e != api.OK {
		t.Fatalf("%v was told and done, but: %d", o, e)
	}
}

// run lets devices do a job, and wants it done, with the shuttle idle at its To; it answers the orders that were told.
func run(t *testing.T, s *Shuttle, v *devices, j api.Job, ticks int) []Order {
	t.Helper()
	done := s.Done()
	if e := s.Assign(j); e != api.OK {
		t.Fatalf("Assign(%v): %d", j, e)
	}
	var told []Order
	for range ticks {
		if s.State() == wIdle {
			break
		}
		o := s.Tick()
		if s.State() == wStalled || o.Kind == None {
			t.Fatalf("%v: stalled, %v", j, told)
		}
		told = append(told, o)
		v.hear(t, s, o)
	}
	if l := lookAt(s); l != (look{wIdle, j.To, 0, done + 1}) {
		t.Fatalf("%v: %+v, %v", j, l, told)
	}
	return told
}

// eachJob calls f with every job of a tote, from every place.
func eachJob(n int, f func(at int, j api.Job)) {
	for at := range n {
		for from := range n {
			for to := range n {
				f(at, api.Job{Tote: 1 + (at+5*from+9*to)%30, From: from, To: to})
			}
		}
	}
}

// wanted are the orders of a job, without those to where the shuttle stands.
func wanted(at int, j api.Job) []Order {
	var list []Order
	if at != j.From {
		list = append(list, Order{Go, j.From})
	}
	list = append(list, Order{Pick, j.Tote})
	if j.From != j.To {
		list = append(list, Order{Go, j.To})
	}
	return append(list, Order{Drop, j.Tote})
}

// TestP14_2_DoneWithinItsPatience has each order done as late as the patience allows, and earlier.
func TestP14_2_DoneWithinItsPatience(t *testing.T) {
	for _, patience := range []int{1, 2, 3, 10} {
		for late := range patience {
			eachJob(4, func(at int, j api.Job) {
				v := &devices{late: func() int { return late }}
				told := run(t, newShuttle(t, 4, at, patience), v, j, 4*patience)
				var want []Order
				for _, o := range wanted(at, j) {
					for range late + 1 {
						want = append(want, o)
					}
				}
				if fmt.Sprint(told) != fmt.Sprint(want) {
					t.Fatalf("at %d, %v: %v, not %v", at, j, told, want)
				}
			})
		}
	}
}

func TestP14_2_DoneWithTheGreatestPatience(t *testing.T) {
	v := &devices{late: func() int { return 999 }}
	s := newShuttle(t, 40, 0, 1000)
	if told := run(t, s, v, api.Job{Tote: 30, From: 39, To: 0}, 4000); len(told) != 4000 {
		t.Errorf("%d orders", len(told))
	}
}

func TestP14_2_ManyJobsDone(t *testing.T) {
	rnd := rand.New(rand.NewSource(142))
	for _, n := range []int{1, 2, 7, 40} {
		for _, patience := range []int{1, 4, 20} {
			s := newShuttle(t, n, n-1, patience)
			v := &devices{late: func() int { return rnd.Intn(patience) }}
			for range 200 {
				run(t, s, v, api.Job{Tote: 1 + rnd.Intn(30), From: rnd.Intn(n), To: rnd.Intn(n)}, 4*patience)
			}
		}
	}
}

// TestP14_2_PlaceByPlace drives the aisle place by place: each place that is told begins the patience anew.
func TestP14_2_PlaceByPlace(t *testing.T) {
	s := newShuttle(t, 40, 20, 2)
	for _, j := range []api.Job{{Tote: 1, From: 0, To: 39}, {Tote: 2, From: 39, To: 0}, {Tote: 3, From: 39, To: 20}} {
		if e := s.Assign(j); e != api.OK {
			t.Fatalf("Assign(%v): %d", j, e)
		}
		for range 1000 {
			if s.State() == wIdle {
				break
			}
			first, second := s.Tick(), s.Tick()
			if first != second || first.Kind == None {
				t.Fatalf("%v, then %v, state %d", first, second, s.State())
			}
			switch first.Kind {
			case Go:
				s.Moved(nearer(s.Place(), first.What))
			case Pick:
				s.Picked(first.What)
			case Drop:
				s.Dropped(first.What)
			}
		}
		if s.State() != wIdle || s.Place() != j.To {
			t.Fatalf("%v: state %d at %d", j, s.State(), s.Place())
		}
	}
}

// nearer is the place next to one, on the way to another.
func nearer(at, to int) int {
	if at < to {
		return at + 1
	}
	return at - 1
}

// TestP14_2_NothingAnswers has it stalled behind so many ticks and one, in each state, and gone on behind a Reset.
func TestP14_2_NothingAnswers(t *testing.T) {
	for _, patience := range []int{1, 2, 3, 50, 999, 1000} {
		for _, state := range working() {
			s := inState(t, state, patience).s
			was := lookAt(s)
			for again := range 3 {
				ticks := 0
				for s.State() != wStalled && ticks < 2000 {
					if o := s.Tick(); s.State() != wStalled && o != orderOf(state) {
						t.Fatalf("state %d, time %d, tick %d: %v", state, again, ticks, o)
					}
					ticks++
				}
				if ticks != patience+1 {
					t.Fatalf("state %d, patience %d, time %d: stalled behind %d ticks", state, patience, again, ticks)
				}
				if e := s.Reset(); e != api.OK || lookAt(s) != was {
					t.Fatalf("state %d: Reset: %d, %+v, not %+v", state, e, lookAt(s), was)
				}
			}
		}
	}
}

// TestP14_2_StalledAtEachStepAndDone stalls the shuttle in every state of a job: reset, it does its job all the same.
func TestP14_2_StalledAtEachStepAndDone(t *testing.T) {
	for _, patience := range []int{1, 3} {
		eachJob(3, func(at int, j api.Job) {
			d := newDouble(t, 3, at, patience)
			d.call(op{"Assign", 0, j})
			for _, o := range wanted(at, j) {
				place, load := d.s.Place(), d.s.Load()
				d.ticks(patience, o.Kind, o.What)
				d.stalls()
				d.ticks(2, None, 0)
				d.does(resetOp(), d.w.steps[0].state, place, load)
				d.ticks(patience, o.Kind, o.What)
				switch o.Kind {
				case Go:
					d.call(movedOp(o.What))
				case Pick:
					d.call(pickedOp(o.What))
				case Drop:
					d.call(droppedOp(o.What))
				}
			}
			if l := lookAt(d.s); l != (look{wIdle, j.To, 0, 1}) {
				t.Fatalf("at %d, %v: %+v", at, j, l)
			}
		})
	}
}

func TestP7_TwoShuttlesShareNothing(t *testing.T) {
	rnd := rand.New(rand.NewSource(71))
	a, b := newDouble(t, 3, 0, 2), newDouble(t, 3, 0, 2)
	for range 10000 {
		a.call(chanceOp(rnd, a))
		b.call(chanceOp(rnd, b))
		a.same()
	}
}

// TestP7_AskingChangesNothing has two shuttles, and asks the one alone between the calls.
func TestP7_AskingChangesNothing(t *testing.T) {
	rnd := rand.New(rand.NewSource(72))
	quiet, d := newShuttle(t, 3, 1, 2), newDouble(t, 3, 1, 2)
	for range 10000 {
		o := chanceOp(rnd, d)
		was := *d.s
		d.same()
		d.same()
		if *d.s != was {
			t.Fatalf("asked: %+v became %+v", was, *d.s)
		}
		if got, want := o.onShuttle(quiet), d.call(o); got != want {
			t.Fatalf("%v: %v, and %v where nothing was asked", o, want, got)
		}
	}
}

func TestP6_NoCallPanics(t *testing.T) {
	numbers := append(outside(), 0, 1, 2, 3, 4, 7, 30, 31, 40, 41)
	for _, n := range numbers {
		for _, at := range numbers {
			for _, patience := range numbers {
				New(n, at, patience)
			}
		}
	}
	everyState(t, 2, func(d *double, state int) {
		for _, a := range numbers {
			for _, b := range numbers {
				for _, o := range []op{assignOp(a, b, a), assignOp(1, a, b), movedOp(a), pickedOp(a), droppedOp(b), tickOp(), resetOp()} {
					d.call(o)
				}
			}
		}
	})
}
