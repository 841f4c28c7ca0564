package gate

import (
	"fmt"
	"math"
	"math/rand"
	"slices"
	"testing"
	"unsafe"

	"stillage/api"
)

// byWords is a gate as the chapter's words have it, plain, and apart from the program: all open ones stand in one list, in
// the order of their acceptance, and each has a mark of its own.
type byWords struct {
	credits int
	open    []entry
}

type entry struct {
	id     int
	inside bool
}

func (w *byWords) find(id int) int {
	return slices.IndexFunc(w.open, func(e entry) bool { return e.id == id })
}

func (w *byWords) list(inside bool) []int {
	var ids []int
	for _, e := range w.open {
		if e.inside == inside {
			ids = append(ids, e.id)
		}
	}
	return ids
}

func (w *byWords) accept(id int) api.Errno {
	if w.find(id) >= 0 {
		return api.ErrTwice
	}
	if len(w.open) == 64 {
		return api.ErrFull
	}
	w.open = append(w.open, entry{id, false})
	return api.OK
}

func (w *byWords) cancel(id int) api.Errno {
	at := w.find(id)
	if at < 0 {
		return api.ErrNone
	}
	if w.open[at].inside {
		return api.ErrState
	}
	w.open = append(w.open[:at:at], w.open[at+1:]...)
	return api.OK
}

func (w *byWords) arrive(id int) api.Errno {
	at := w.find(id)
	if at < 0 {
		return api.ErrNone
	}
	if w.open[at].inside {
		return api.ErrState
	}
	for _, e := range w.open[:at] {
		if !e.inside {
			return api.ErrBlocked
		}
	}
	if w.left() == 0 {
		return api.ErrFull
	}
	w.open[at].inside = true
	return api.OK
}

func (w *byWords) leave() (int, api.Errno) {
	for at, e := range w.open {
		if e.inside {
			w.open = append(w.open[:at:at], w.open[at+1:]...)
			return e.id, api.OK
		}
	}
	return 0, api.ErrNone
}

func (w *byWords) left() int { return w.credits - len(w.list(true)) }

// op is a call of a gate that may change it.
type op struct {
	name string
	id   int
}

func acceptOp(id int) op { return op{"Accept", id} }
func cancelOp(id int) op { return op{"Cancel", id} }
func arriveOp(id int) op { return op{"Arrive", id} }
func leaveOp() op        { return op{name: "Leave"} }

// result is what a call answers.
type result struct {
	id int
	e  api.Errno
}

func (o op) onGate(g *Gate) (r result) {
	switch o.name {
	case "Accept":
		r.e = g.Accept(o.id)
	case "Cancel":
		r.e = g.Cancel(o.id)
	case "Arrive":
		r.e = g.Arrive(o.id)
	case "Leave":
		r.id, r.e = g.Leave()
	}
	return r
}

func (o op) onWords(w *byWords) (r result) {
	switch o.name {
	case "Accept":
		r.e = w.accept(o.id)
	case "Cancel":
		r.e = w.cancel(o.id)
	case "Arrive":
		r.e = w.arrive(o.id)
	case "Leave":
		r.id, r.e = w.leave()
	}
	return r
}

// look is all that can be asked of a gate.
type look struct {
	waiting, inside []int
	credits         int
}

func lookAt(g *Gate) look { return look{g.Waiting(), g.Inside(), g.Credits()} }

func (w *byWords) look() look { return look{w.list(false), w.list(true), w.left()} }

func (l look) same(m look) bool {
	return slices.Equal(l.waiting, m.waiting) && slices.Equal(l.inside, m.inside) && l.credits == m.credits
}

// numbers are those from one on, up to another, without it.
func numbers(from, to int) []int { return between(nil, from, to) }

// between appends such numbers to a list.
func between(list []int, from, to int) []int {
	for n := from; n < to; n++ {
		list = append(list, n)
	}
	return list
}

// anySize are numbers of any size: each may be accepted.
func anySize() []int {
	return []int{0, -1, 1, -2, 16, 17, 63, 64, 65, -64, 1 << 16, 1 << 31, 1 << 32, 1<<32 + 1, -1 << 32, math.MinInt, math.MinInt + 1, math.MaxInt - 1, math.MaxInt}
}

func newGate(t testing.TB, credits int) *Gate {
	t.Helper()
	g, e := New(credits)
	if g == nil || e != api.OK {
		t.Fatalf("New(%d): %v, %d", credits, g, e)
	}
	return g
}

// double has a gate and its plain form side by side, and holds each call of the one against the other.
type double struct {
	t testing.TB
	g *Gate
	w *byWords
}

func newDouble(t testing.TB, credits int) *double {
	t.Helper()
	d := &double{t, newGate(t, credits), &byWords{credits: credits}}
	d.same()
	return d
}

func (d *double) same() {
	d.t.Helper()
	if got, want := lookAt(d.g), d.w.look(); !got.same(want) {
		d.t.Fatalf("credits %d: %+v, not %+v", d.w.credits, got, want)
	}
}

func (d *double) call(o op) result {
	d.t.Helper()
	before := d.w.look()
	got, want := o.onGate(d.g), o.onWords(d.w)
	if got != want {
		d.t.Fatalf("credits %d, %+v: %v: %v, not %v", d.w.credits, before, o, got, want)
	}
	d.same()
	return got
}

// accept, cancel and arrive want no error.
func (d *double) accept(ids ...int) {
	d.t.Helper()
	for _, id := range ids {
		d.does(acceptOp(id))
	}
}

func (d *double) cancel(ids ...int) {
	d.t.Helper()
	for _, id := range ids {
		d.does(cancelOp(id))
	}
}

func (d *double) arrive(ids ...int) {
	d.t.Helper()
	for _, id := range ids {
		d.does(arriveOp(id))
	}
}

func (d *double) does(o op) {
	d.t.Helper()
	before := lookAt(d.g)
	if r := d.call(o); r != (result{}) {
		d.t.Fatalf("%+v: %v: %v", before, o, r)
	}
}

// leave wants that these leave, in this order.
func (d *double) leave(ids ...int) {
	d.t.Helper()
	for _, id := range ids {
		if r := d.call(leaveOp()); r != (result{id, api.OK}) {
			d.t.Fatalf("Leave: %v, not %d", r, id)
		}
	}
}

// refused wants an error, and nothing changed.
func (d *double) refused(o op, e api.Errno) {
	d.t.Helper()
	before := lookAt(d.g)
	if r := d.call(o); r != (result{0, e}) {
		d.t.Fatalf("%+v: %v: %v, not %d", before, o, r, e)
	}
	if after := lookAt(d.g); !after.same(before) {
		d.t.Fatalf("%v was refused, but %+v became %+v", o, before, after)
	}
}

// holds wants these inside, these waiting, and so many credits left.
func (d *double) holds(inside, waiting []int, credits int) {
	d.t.Helper()
	want := look{waiting, inside, credits}
	if got := lookAt(d.g); !got.same(want) {
		d.t.Fatalf("%+v, not %+v", got, want)
	}
}

func TestP15_1_NewRefusesWhatIsOutside(t *testing.T) {
	for _, credits := range append(anySize(), 0, -1, 17, 18, 32, 64, -16) {
		if credits == 1 || credits == 16 {
			continue
		}
		if g, e := New(credits); g != nil || e != api.ErrRange {
			t.Errorf("New(%d): %v, %d", credits, g, e)
		}
	}
}

func TestP15_1_NewHasNone(t *testing.T) {
	for credits := 1; credits <= 16; credits++ {
		d := newDouble(t, credits)
		d.holds(nil, nil, credits)
		d.refused(leaveOp(), api.ErrNone)
		for _, id := range anySize() {
			d.refused(cancelOp(id), api.ErrNone)
			d.refused(arriveOp(id), api.ErrNone)
		}
	}
}

func TestP15_1_Example(t *testing.T) {
	d := newDouble(t, 1)
	d.accept(5, 3)
	d.refused(arriveOp(3), api.ErrBlocked)
	d.arrive(5)
	d.refused(arriveOp(3), api.ErrFull)
	d.leave(5)
	d.arrive(3)
	d.holds([]int{3}, nil, 0)
}

func TestP15_1_EachGoesItsWay(t *testing.T) {
	d := newDouble(t, 3)
	d.accept(7)
	d.holds(nil, []int{7}, 3)
	d.accept(9, 8)
	d.holds(nil, []int{7, 9, 8}, 3)
	d.arrive(7)
	d.holds([]int{7}, []int{9, 8}, 2)
	d.arrive(9)
	d.holds([]int{7, 9}, []int{8}, 1)
	d.leave(7)
	d.holds([]int{9}, []int{8}, 2)
	d.arrive(8)
	d.holds([]int{9, 8}, nil, 1)
	d.accept(1)
	d.holds([]int{9, 8}, []int{1}, 1)
	d.leave(9, 8)
	d.holds(nil, []int{1}, 3)
	d.cancel(1)
	d.holds(nil, nil, 3)
}

// TestP15_1_AsManyInsideAsCredits fills each gate, has one more refused, and lets it in behind a Leave.
func TestP15_1_AsManyInsideAsCredits(t *testing.T) {
	for credits := 1; credits <= 16; credits++ {
		d := newDouble(t, credits)
		d.accept(numbers(0, credits+2)...)
		for id := range credits {
			d.holds(numbers(0, id), numbers(id, credits+2), credits-id)
			d.arrive(id)
		}
		for range 3 {
			d.refused(arriveOp(credits), api.ErrFull)
			d.refused(arriveOp(credits+1), api.ErrBlocked)
		}
		d.leave(0)
		d.refused(arriveOp(credits+1), api.ErrBlocked)
		d.arrive(credits)
		d.refused(arriveOp(credits+1), api.ErrFull)
		d.holds(numbers(1, credits+1), []int{credits + 1}, 0)
	}
}

func TestP15_1_TheLongestInsideLeaves(t *testing.T) {
	for credits := 1; credits <= 16; credits++ {
		d := newDouble(t, credits)
		for range 3 {
			ids := numbers(-credits/2, credits-credits/2)
			slices.Reverse(ids)
			d.accept(ids...)
			d.arrive(ids...)
			for at, id := range ids {
				d.leave(id)
				d.holds(ids[at+1:], nil, at+1)
			}
			d.refused(leaveOp(), api.ErrNone)
		}
	}
}

// TestP15_1_LeaveWhereAllWait: who waits doesn't leave.
func TestP15_1_LeaveWhereAllWait(t *testing.T) {
	d := newDouble(t, 2)
	d.accept(4, 0, 6)
	d.refused(leaveOp(), api.ErrNone)
	d.arrive(4)
	d.leave(4)
	d.refused(leaveOp(), api.ErrNone)
	d.holds(nil, []int{0, 6}, 2)
}

func TestP15_1_CancelAtEachPlace(t *testing.T) {
	for waiting := 1; waiting <= 6; waiting++ {
		for inside := range 3 {
			for at := range waiting {
				d := newDouble(t, 2)
				d.accept(numbers(0, inside+waiting)...)
				d.arrive(numbers(0, inside)...)
				d.cancel(inside + at)
				rest := between(numbers(inside, inside+at), inside+at+1, inside+waiting)
				d.holds(numbers(0, inside), rest, 2-inside)
				d.refused(cancelOp(inside+at), api.ErrNone)
				d.refused(arriveOp(inside+at), api.ErrNone)
				for _, id := range rest {
					d.call(leaveOp())
					d.arrive(id)
				}
			}
		}
	}
}

// TestP15_1_CancelOfTheOneAhead lets the one behind it go in.
func TestP15_1_CancelOfTheOneAhead(t *testing.T) {
	d := newDouble(t, 1)
	d.accept(1, 2, 3)
	d.refused(arriveOp(3), api.ErrBlocked)
	d.cancel(1)
	d.refused(arriveOp(3), api.ErrBlocked)
	d.cancel(2)
	d.arrive(3)
	d.holds([]int{3}, nil, 0)
}

func TestP15_1_CancelGivesNoCredit(t *testing.T) {
	d := newDouble(t, 1)
	d.accept(1, 2, 3)
	d.arrive(1)
	d.cancel(2)
	d.refused(arriveOp(3), api.ErrFull)
	d.holds([]int{1}, []int{3}, 0)
}

func TestP15_1_AcceptOfOneThatIsOpen(t *testing.T) {
	d := newDouble(t, 2)
	d.accept(1, 2, 3, 4)
	d.arrive(1, 2)
	for id := 1; id <= 4; id++ {
		d.refused(acceptOp(id), api.ErrTwice)
	}
	d.holds([]int{1, 2}, []int{3, 4}, 0)
}

func TestP15_1_WhatIsInsideDoesNotWait(t *testing.T) {
	for credits := 1; credits <= 16; credits++ {
		d := newDouble(t, credits)
		d.accept(numbers(0, credits+1)...)
		for id := range credits {
			d.arrive(id)
			for in := range id + 1 {
				d.refused(arriveOp(in), api.ErrState)
				d.refused(cancelOp(in), api.ErrState)
			}
		}
	}
}

// TestP15_1_WhatIsNotOpen has numbers that never were, that were cancelled, and that are out.
func TestP15_1_WhatIsNotOpen(t *testing.T) {
	d := newDouble(t, 2)
	d.accept(1, 2, 3, 4, 5)
	d.cancel(2)
	d.arrive(1, 3)
	d.leave(1)
	for _, id := range []int{1, 2, 6, 0, -1, -3, 3 + 1<<32, math.MaxInt, math.MinInt} {
		d.refused(cancelOp(id), api.ErrNone)
		d.refused(arriveOp(id), api.ErrNone)
	}
	d.holds([]int{3}, []int{4, 5}, 1)
}

// TestP15_1_BlockedAheadOfFull has one that isn't the first arrive at a gate with and without credits.
func TestP15_1_BlockedAheadOfFull(t *testing.T) {
	for credits := 1; credits <= 16; credits++ {
		for inside := range credits + 1 {
			d := newDouble(t, credits)
			d.accept(numbers(0, inside+4)...)
			d.arrive(numbers(0, inside)...)
			for id := inside + 1; id < inside+4; id++ {
				d.refused(arriveOp(id), api.ErrBlocked)
			}
			if inside == credits {
				d.refused(arriveOp(inside), api.ErrFull)
			} else {
				d.arrive(inside)
			}
		}
	}
}

// TestP15_1_AsManyOpenAsTheBookHas fills gates with so many inside and the rest waiting.
func TestP15_1_AsManyOpenAsTheBookHas(t *testing.T) {
	for _, inside := range []int{0, 1, 7, 15, 16} {
		full := func() *double {
			d := newDouble(t, 16)
			d.accept(numbers(0, 63)...)
			d.arrive(numbers(0, inside)...)
			d.accept(63)
			for _, id := range []int{64, -1, math.MaxInt, math.MinInt} {
				d.refused(acceptOp(id), api.ErrFull)
			}
			for id := range 64 {
				d.refused(acceptOp(id), api.ErrTwice)
			}
			d.holds(numbers(0, inside), numbers(inside, 64), 16-inside)
			return d
		}
		for _, id := range []int{16, 40, 63} {
			d := full()
			d.cancel(id)
			d.accept(100)
			d.refused(acceptOp(101), api.ErrFull)
			d.refused(acceptOp(id), api.ErrFull)
			d.refused(acceptOp(100), api.ErrTwice)
		}
		d := full()
		if inside == 0 {
			d.refused(leaveOp(), api.ErrNone)
			continue
		}
		d.leave(0)
		d.accept(0)
		d.refused(acceptOp(101), api.ErrFull)
		d.holds(numbers(1, inside), append(numbers(inside, 64), 0), 17-inside)
	}
}

// TestP15_1_GoingInMakesNoRoomInTheBook: who is inside is open still.
func TestP15_1_GoingInMakesNoRoomInTheBook(t *testing.T) {
	d := newDouble(t, 16)
	d.accept(numbers(0, 64)...)
	for id := range 16 {
		d.arrive(id)
		d.refused(acceptOp(64), api.ErrFull)
	}
	for id := range 16 {
		d.leave(id)
		d.accept(64 + id)
		d.refused(acceptOp(id), api.ErrFull)
	}
}

// TestP15_1_AcceptedAgain: a number that is out, or was cancelled, stands behind all when it comes again.
func TestP15_1_AcceptedAgain(t *testing.T) {
	d := newDouble(t, 1)
	d.accept(1, 2, 3)
	d.cancel(1)
	d.accept(1)
	d.holds(nil, []int{2, 3, 1}, 1)
	d.arrive(2)
	d.leave(2)
	d.accept(2)
	d.holds(nil, []int{3, 1, 2}, 1)
	d.refused(arriveOp(2), api.ErrBlocked)
	d.refused(acceptOp(2), api.ErrTwice)
	for _, id := range []int{3, 1, 2} {
		d.arrive(id)
		d.leave(id)
	}
	for range 200 {
		d.accept(2)
		d.cancel(2)
		d.accept(2)
		d.arrive(2)
		d.leave(2)
	}
	d.holds(nil, nil, 1)
}

func TestP15_1_NumbersOfAnySize(t *testing.T) {
	for credits := 1; credits <= 16; credits++ {
		ids := anySize()
		d := newDouble(t, credits)
		d.accept(ids...)
		d.holds(nil, ids, credits)
		for at, id := range ids {
			d.refused(acceptOp(id), api.ErrTwice)
			for _, other := range ids[at+1:] {
				d.refused(arriveOp(other), api.ErrBlocked)
			}
			d.arrive(id)
			d.refused(acceptOp(id), api.ErrTwice)
			d.leave(id)
			d.refused(cancelOp(id), api.ErrNone)
		}
		for _, id := range ids {
			d.accept(id)
			d.cancel(id)
		}
	}
}

// changes are calls that may change a gate, with these numbers.
func changes(ids ...int) []op {
	list := []op{leaveOp()}
	for _, id := range ids {
		list = append(list, acceptOp(id), cancelOp(id), arriveOp(id))
	}
	return list
}

// replay has a gate on which these calls were made, each held against the words.
func replay(t *testing.T, credits int, calls []op) {
	t.Helper()
	d := newDouble(t, credits)
	for _, o := range calls {
		d.call(o)
	}
}

// everyList calls each list of so many calls.
func everyList(t *testing.T, credits int, ops, ahead []op, length int) {
	t.Helper()
	if length == 0 {
		replay(t, credits, ahead)
		return
	}
	for _, o := range ops {
		everyList(t, credits, ops, append(ahead[:len(ahead):len(ahead)], o), length-1)
	}
}

func TestP15_1_EveryShortListOfCalls(t *testing.T) {
	for credits := 1; credits <= 2; credits++ {
		everyList(t, credits, changes(0, -4, 9), nil, 5)
		everyList(t, credits, changes(0, 3), nil, 6)
	}
}

// everyState calls f with a gate in each of its states in which these numbers, or some of them, are open.
func everyState(t *testing.T, credits int, ids, open []int, f func(d *double)) {
	t.Helper()
	for inside := range min(credits, len(open)) + 1 {
		d := newDouble(t, credits)
		d.accept(open...)
		d.arrive(open[:inside]...)
		f(d)
	}
	for _, id := range ids {
		if !slices.Contains(open, id) {
			everyState(t, credits, ids, append(open[:len(open):len(open)], id), f)
		}
	}
}

// TestP15_1_EveryCallInEveryState makes each call in each state of gates with four numbers; what is refused is made twice.
func TestP15_1_EveryCallInEveryState(t *testing.T) {
	ids := []int{2, 0, -5, 11}
	for credits := 1; credits <= 5; credits++ {
		everyState(t, credits, ids, nil, func(d *double) {
			open := d.w.open
			for _, o := range changes(append(ids, 77)...) {
				again := newDouble(t, credits)
				for _, e := range open {
					again.accept(e.id)
					if e.inside {
						again.arrive(e.id)
					}
				}
				before := lookAt(again.g)
				if r := again.call(o); r.e != api.OK {
					again.refused(o, r.e)
					again.holds(before.inside, before.waiting, before.credits)
				}
			}
		})
	}
}

// chanceOp is a call by chance: now with a number that is open, now with any. A gate that fills gets more Accepts.
func chanceOp(rnd *rand.Rand, d *double, fills bool) op {
	id := rnd.Intn(100) - 20
	l := d.w.look()
	switch rnd.Intn(5) {
	case 0:
		if len(l.waiting) > 0 {
			id = l.waiting[0]
		}
	case 1:
		if len(l.waiting) > 0 {
			id = l.waiting[rnd.Intn(len(l.waiting))]
		}
	case 2:
		if len(l.inside) > 0 {
			id = l.inside[rnd.Intn(len(l.inside))]
		}
	case 3:
		id = anySize()[rnd.Intn(len(anySize()))]
	}
	ops := []op{acceptOp(id), acceptOp(id), arriveOp(id), arriveOp(id), leaveOp(), cancelOp(id)}
	if fills {
		ops = append(ops[:5], acceptOp(id), acceptOp(id), acceptOp(id), acceptOp(id), acceptOp(id))
	}
	return ops[rnd.Intn(len(ops))]
}

// chanceRun calls f with a double and call by call what comes by chance.
func chanceRun(t *testing.T, credits, calls, seed int, f func(d *double, o op)) {
	t.Helper()
	rnd := rand.New(rand.NewSource(int64(seed)))
	d := newDouble(t, credits)
	for i := range calls {
		f(d, chanceOp(rnd, d, i/400%2 == 0))
	}
}

func TestP15_1_LongListsOfCalls(t *testing.T) {
	answered := map[string]int{}
	for credits := 1; credits <= 16; credits++ {
		for run := range 3 {
			chanceRun(t, credits, 4000, 100*credits+run, func(d *double, o op) {
				before := lookAt(d.g)
				r := d.call(o)
				answered[fmt.Sprint(o.name, ": ", int(r.e))]++
				if r.e == api.ErrTwice && len(before.waiting)+len(before.inside) == 64 {
					answered["Accept of an open one when 64 are"]++
				}
				if r.e == api.ErrBlocked && before.credits == 0 {
					answered["Arrive behind another one without a credit"]++
				}
			})
		}
	}
	ways := []string{"Accept of an open one when 64 are", "Arrive behind another one without a credit"}
	for name, errors := range map[string][]api.Errno{
		"Accept": {api.OK, api.ErrTwice, api.ErrFull},
		"Cancel": {api.OK, api.ErrNone, api.ErrState},
		"Arrive": {api.OK, api.ErrNone, api.ErrState, api.ErrBlocked, api.ErrFull},
		"Leave":  {api.OK, api.ErrNone},
	} {
		for _, e := range errors {
			ways = append(ways, fmt.Sprint(name, ": ", int(e)))
		}
	}
	for _, way := range ways {
		if answered[way] < 100 {
			t.Errorf("%s was answered %d times", way, answered[way])
		}
	}
}

func TestP15_1_WhatIsRefusedChangesNothing(t *testing.T) {
	for credits := 1; credits <= 16; credits++ {
		chanceRun(t, credits, 4000, 2000+credits, func(d *double, o op) {
			before := lookAt(d.g)
			r := d.call(o)
			if after := lookAt(d.g); r.e != api.OK && !after.same(before) {
				t.Fatalf("%v: %d: %+v became %+v", o, r.e, before, after)
			}
			if r.e != api.OK && r.id != 0 {
				t.Fatalf("%v: %v", o, r)
			}
		})
	}
}

// diary is what happened at a gate, by its answers alone.
type diary struct {
	accepted []int // all that weren't cancelled
	in, out  []int
}

// write takes an answered call over.
func (y *diary) write(o op, r result) {
	if r.e != api.OK {
		return
	}
	switch o.name {
	case "Accept":
		y.accepted = append(y.accepted, o.id)
	case "Cancel":
		// Its last acceptance is the one that is cancelled: those ahead of it are out.
		for at := len(y.accepted) - 1; at >= 0; at-- {
			if y.accepted[at] == o.id {
				y.accepted = slices.Delete(y.accepted, at, at+1)
				return
			}
		}
	case "Arrive":
		y.in = append(y.in, o.id)
	case "Leave":
		y.out = append(y.out, r.id)
	}
}

// check wants that those that went in are the first of the accepted ones, those that left the first of these, and that the
// gate tells the others.
func (y *diary) check(t *testing.T, g *Gate) {
	t.Helper()
	if len(y.in) > len(y.accepted) || len(y.out) > len(y.in) {
		t.Fatalf("%d were accepted, %d went in, %d left", len(y.accepted), len(y.in), len(y.out))
	}
	if !slices.Equal(y.in, y.accepted[:len(y.in)]) {
		t.Fatalf("%v were accepted, %v went in", y.accepted, y.in)
	}
	if !slices.Equal(y.out, y.in[:len(y.out)]) {
		t.Fatalf("%v went in, %v left", y.in, y.out)
	}
	if !slices.Equal(g.Inside(), y.in[len(y.out):]) || !slices.Equal(g.Waiting(), y.accepted[len(y.in):]) {
		t.Fatalf("inside %v, waiting %v, not %v and %v", g.Inside(), g.Waiting(), y.in[len(y.out):], y.accepted[len(y.in):])
	}
}

func TestP15_2_InTheOrderOfTheirAcceptance(t *testing.T) {
	for credits := 1; credits <= 16; credits++ {
		y := &diary{}
		chanceRun(t, credits, 2500, 3000+credits, func(d *double, o op) {
			y.write(o, d.call(o))
			y.check(t, d.g)
		})
		if len(y.out) < 50 {
			t.Errorf("credits %d: %d left", credits, len(y.out))
		}
	}
}

// TestP15_2_WhoeverTriesToGoIn has all of the waiting ones try, by chance, ahead of each one that goes in.
func TestP15_2_WhoeverTriesToGoIn(t *testing.T) {
	rnd := rand.New(rand.NewSource(152))
	for credits := 1; credits <= 16; credits++ {
		g, y := newGate(t, credits), &diary{}
		do := func(o op) result {
			r := o.onGate(g)
			y.write(o, r)
			y.check(t, g)
			return r
		}
		for _, id := range rnd.Perm(64) {
			do(acceptOp(id))
		}
		for _, id := range rnd.Perm(64)[:20] {
			do(cancelOp(id))
		}
		for len(g.Waiting()) > 0 {
			went := 0
			for _, at := range rnd.Perm(64) {
				if do(arriveOp(at)).e == api.OK {
					went++
				}
			}
			if went == 0 && g.Credits() > 0 {
				t.Fatalf("credits %d: none went in, %v wait", credits, g.Waiting())
			}
			do(leaveOp())
		}
		if len(y.in) != 44 {
			t.Errorf("credits %d: %d went in", credits, len(y.in))
		}
	}
}

// orders are lists of the same numbers: as they wait, the other way round, and by chance.
func orders(rnd *rand.Rand, ids []int) [][]int {
	back, mixed := slices.Clone(ids), slices.Clone(ids)
	slices.Reverse(back)
	rnd.Shuffle(len(mixed), func(i, j int) { mixed[i], mixed[j] = mixed[j], mixed[i] })
	return [][]int{ids, back, mixed}
}

// TestP15_3_EachGoesInAtLast: in each round all that wait arrive, in some order, and one leaves.
func TestP15_3_EachGoesInAtLast(t *testing.T) {
	rnd := rand.New(rand.NewSource(153))
	for credits := 1; credits <= 16; credits++ {
		for way := range 3 {
			g := newGate(t, credits)
			for id := range 64 {
				g.Accept(id)
			}
			var in []int
			for range 64 {
				for _, id := range orders(rnd, g.Waiting())[way] {
					if g.Arrive(id) == api.OK {
						in = append(in, id)
					}
				}
				g.Leave()
			}
			if !slices.Equal(in, numbers(0, 64)) {
				t.Fatalf("credits %d, way %d: %v went in", credits, way, in)
			}
		}
	}
}

// TestP15_3_OthersThatComeDoNotMatter: new ones come in each round, and some of those that wait are cancelled, but one goes in
// within as many rounds as there were ahead of it, and one.
func TestP15_3_OthersThatComeDoNotMatter(t *testing.T) {
	rnd := rand.New(rand.NewSource(154))
	for credits := 1; credits <= 16; credits++ {
		for ahead := range 63 {
			g := newGate(t, credits)
			for id := range ahead + 1 {
				g.Accept(id)
			}
			next, rounds := ahead+1, 0
			for slices.Contains(g.Waiting(), ahead) {
				if rounds++; rounds > ahead+1 {
					t.Fatalf("credits %d: %d waits for ever: %v", credits, ahead, g.Waiting())
				}
				for g.Accept(next) == api.OK {
					next++
				}
				if id := rnd.Intn(next); id != ahead {
					g.Cancel(id)
				}
				for _, id := range orders(rnd, g.Waiting())[rounds%3] {
					g.Arrive(id)
				}
				g.Leave()
			}
		}
	}
}

// TestP15_3_OneOfThemGoesInWhereThereIsACredit: a gate with a credit and one that waits isn't stuck, whatever was called ahead.
func TestP15_3_OneOfThemGoesInWhereThereIsACredit(t *testing.T) {
	for credits := 1; credits <= 16; credits++ {
		chanceRun(t, credits, 3000, 4000+credits, func(d *double, o op) {
			d.call(o)
			l := lookAt(d.g)
			if l.credits == 0 || len(l.waiting) == 0 {
				return
			}
			went := 0
			for _, id := range slices.Backward(l.waiting) {
				if d.call(arriveOp(id)).e == api.OK {
					went++
				}
			}
			if went != 1 {
				t.Fatalf("%+v: %d went in", l, went)
			}
		})
	}
}

// scribble writes over a list, spare room too.
func scribble(list []int) {
	room := list[:cap(list)]
	for i := range room {
		room[i] = 12345
	}
}

// overlap tells whether two lists share memory, spare room too.
func overlap(a, b []int) bool {
	if cap(a) == 0 || cap(b) == 0 {
		return false
	}
	x, y := uintptr(unsafe.Pointer(unsafe.SliceData(a))), uintptr(unsafe.Pointer(unsafe.SliceData(b)))
	return x < y+uintptr(cap(b))*unsafe.Sizeof(0) && y < x+uintptr(cap(a))*unsafe.Sizeof(0)
}

// TestP15_4_AnswersAreNewMemory writes over each answer, and holds the gate and the answers behind it against the words.
func TestP15_4_AnswersAreNewMemory(t *testing.T) {
	for credits := 1; credits <= 16; credits++ {
		chanceRun(t, credits, 2000, 5000+credits, func(d *double, o op) {
			d.call(o)
			lists := [][]int{d.g.Waiting(), d.g.Inside(), d.g.Inside(), d.g.Waiting()}
			for at, list := range lists {
				for _, other := range lists[:at] {
					if overlap(list, other) {
						t.Fatalf("%v: %v and %v share memory", o, list, other)
					}
				}
			}
			for _, list := range lists {
				scribble(list)
				d.same()
			}
		})
	}
}

// TestP15_4_AnswersStayAsTheyWere keeps answers, and looks whether later calls change them.
func TestP15_4_AnswersStayAsTheyWere(t *testing.T) {
	for credits := 1; credits <= 16; credits++ {
		var lists, were [][]int
		chanceRun(t, credits, 1500, 6000+credits, func(d *double, o op) {
			for _, list := range [][]int{d.g.Waiting(), d.g.Inside()} {
				lists, were = append(lists, list), append(were, slices.Clone(list))
			}
			d.call(o)
		})
		for i := range lists {
			if !slices.Equal(lists[i], were[i]) {
				t.Fatalf("%v was answered, and now it is %v", were[i], lists[i])
			}
		}
	}
}

// TestP15_4_SpareRoomIsNotTheGates appends to answers, where a piece of the gate itself would have room left.
func TestP15_4_SpareRoomIsNotTheGates(t *testing.T) {
	d := newDouble(t, 4)
	_, _ = append(d.g.Waiting(), 9, 9), append(d.g.Inside(), 9, 9)
	d.accept(1, 2, 3, 4, 5)
	d.arrive(1, 2)
	d.cancel(5)
	waiting, inside := d.g.Waiting(), d.g.Inside()
	_, _ = append(waiting, 9, 9), append(inside, 9, 9)
	d.accept(6, 7)
	d.arrive(3)
	_, _ = append(waiting, 8, 8), append(inside, 8, 8)
	d.holds([]int{1, 2, 3}, []int{4, 6, 7}, 1)
	if !slices.Equal(waiting, []int{3, 4}) || !slices.Equal(inside, []int{1, 2}) {
		t.Errorf("the answers became %v and %v", waiting, inside)
	}
}

func TestP7_TwoGatesShareNothing(t *testing.T) {
	for credits := 1; credits <= 16; credits++ {
		rnd := rand.New(rand.NewSource(int64(7000 + credits)))
		a, b := newDouble(t, credits), newDouble(t, credits)
		for i := range 1500 {
			a.call(chanceOp(rnd, a, i/300%2 == 0))
			b.call(chanceOp(rnd, b, i/200%2 == 0))
			a.same()
			b.same()
		}
	}
}

// TestP7_AskingChangesNothing has two gates, and asks the one alone between the calls.
func TestP7_AskingChangesNothing(t *testing.T) {
	for credits := 1; credits <= 16; credits++ {
		quiet := newGate(t, credits)
		chanceRun(t, credits, 2000, 8000+credits, func(d *double, o op) {
			d.same()
			d.same()
			if got, want := o.onGate(quiet), d.call(o); got != want {
				t.Fatalf("%v: %v, and %v where nothing was asked", o, want, got)
			}
		})
	}
}

// TestP7_NoMoreIsKeptThanIsOpen: a gate through which many went has no more room than one that was full once.
func TestP7_NoMoreIsKeptThanIsOpen(t *testing.T) {
	g := newGate(t, 16)
	for id := range 100000 {
		g.Accept(id)
		g.Arrive(id)
		if g.Accept(-1 - id); id%2 == 0 {
			g.Cancel(-1 - id)
		} else {
			g.Arrive(-1 - id)
			g.Leave()
		}
		g.Leave()
	}
	if cap(g.waiting) > 128 || len(g.waiting)+len(g.inside) != 0 {
		t.Errorf("room for %d, %d waiting, %d inside", cap(g.waiting), len(g.waiting), len(g.inside))
	}
}

func TestP6_NoCallPanics(t *testing.T) {
	for _, credits := range append(anySize(), 2, 15) {
		g, e := New(credits)
		if e != api.OK {
			continue
		}
		for range 3 {
			for _, a := range anySize() {
				for _, b := range anySize() {
					for _, o := range []op{acceptOp(a), arriveOp(b), acceptOp(b), cancelOp(a), arriveOp(a), leaveOp(), cancelOp(b)} {
						o.onGate(g)
						lookAt(g)
					}
				}
			}
		}
	}
}
