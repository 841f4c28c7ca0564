package book

import (
	"fmt"
	"math"
	"math/rand"
	"slices"
	"testing"
	"unsafe"

	"stillage/api"
)

// byWords is a book as the chapter's words have it, plain, and apart from the program: one list of all that ever came, each
// with a mark of its own, and one of those that were served.
type byWords struct {
	came []line
	done []api.Request
}

type line struct {
	says  api.Request
	state int
}

func (w *byWords) find(id int) *line {
	for i := range w.came {
		if w.came[i].says.ID == id {
			return &w.came[i]
		}
	}
	return nil
}

func (w *byWords) open() []api.Request {
	var list []api.Request
	for _, l := range w.came {
		if l.state == 1 {
			list = append(list, l.says)
		}
	}
	return list
}

func (w *byWords) add(r api.Request) (bool, api.Errno) {
	if r.Station < 0 || r.Station > 39 || r.Tote < 1 || r.Tote > 30 {
		return false, api.ErrRange
	}
	if l := w.find(r.ID); l != nil {
		if l.says.Station != r.Station || l.says.Tote != r.Tote {
			return false, api.ErrTwice
		}
		return false, api.OK
	}
	for _, o := range w.open() {
		if o.Tote == r.Tote {
			return false, api.ErrTote
		}
	}
	if len(w.open()) == 64 {
		return false, api.ErrFull
	}
	w.came = append(w.came, line{r, 1})
	return true, api.OK
}

func (w *byWords) cancel(id int) (bool, api.Errno) {
	l := w.find(id)
	switch {
	case l == nil:
		return false, api.ErrNone
	case l.state == 2:
		return false, api.ErrState
	case l.state == 3:
		return false, api.OK
	}
	l.state = 3
	return true, api.OK
}

func (w *byWords) serve(id int) api.Errno {
	l := w.find(id)
	if l == nil {
		return api.ErrNone
	}
	if l.state != 1 {
		return api.ErrState
	}
	for _, o := range w.open() {
		if o.ID == id {
			break
		}
		if o.Station == l.says.Station {
			return api.ErrBlocked
		}
	}
	l.state = 2
	w.done = append(w.done, l.says)
	return api.OK
}

// firstOf and wantedOf look through the open requests.
func firstOf(open []api.Request, station int) answer {
	for _, o := range open {
		if o.Station == station {
			return answer{o, true}
		}
	}
	return answer{}
}

func wantedOf(open []api.Request, tote int) answer {
	for _, o := range open {
		if o.Tote == tote {
			return answer{o, true}
		}
	}
	return answer{}
}

func (w *byWords) state(id int) int {
	if l := w.find(id); l != nil {
		return l.state
	}
	return 0
}

func (w *byWords) served(station int) []int {
	var ids []int
	for _, r := range w.done {
		if r.Station == station {
			ids = append(ids, r.ID)
		}
	}
	return ids
}

// op is a call of a book that may change it; a Cancel and a Serve have an ID alone.
type op struct {
	name string
	r    api.Request
}

func addOp(id, station, tote int) op {
	return op{"Add", api.Request{ID: id, Station: station, Tote: tote}}
}
func cancelOp(id int) op { return op{"Cancel", api.Request{ID: id}} }
func serveOp(id int) op  { return op{"Serve", api.Request{ID: id}} }

// result is what a call answers.
type result struct {
	yes bool
	e   api.Errno
}

func (o op) onBook(b *Book) (r result) {
	switch o.name {
	case "Add":
		r.yes, r.e = b.Add(o.r)
	case "Cancel":
		r.yes, r.e = b.Cancel(o.r.ID)
	case "Serve":
		r.e = b.Serve(o.r.ID)
	}
	return r
}

func (o op) onWords(w *byWords) (r result) {
	switch o.name {
	case "Add":
		r.yes, r.e = w.add(o.r)
	case "Cancel":
		r.yes, r.e = w.cancel(o.r.ID)
	case "Serve":
		r.e = w.serve(o.r.ID)
	}
	return r
}

// answer is a request and whether there is one.
type answer struct {
	r  api.Request
	is bool
}

func answered(r api.Request, is bool) answer { return answer{r, is} }

// look is what can be asked of a book, from numbers that are no station or tote to such numbers.
type look struct {
	open   []api.Request
	first  [44]answer // of the stations from -2 on
	served [44][]int
	wanted [35]answer // of the totes from -2 on
	states []int      // of the IDs that were asked for
}

func lookAt(b *Book, ids []int) look {
	l := look{open: b.Open()}
	for at := range l.first {
		l.first[at], l.served[at] = answered(b.First(at-2)), b.Served(at-2)
	}
	for at := range l.wanted {
		l.wanted[at] = answered(b.Wanted(at - 2))
	}
	for _, id := range ids {
		l.states = append(l.states, b.State(id))
	}
	return l
}

func (w *byWords) look(ids []int) look {
	l := look{open: w.open()}
	for at := range l.first {
		l.first[at], l.served[at] = firstOf(l.open, at-2), w.served(at-2)
	}
	for at := range l.wanted {
		l.wanted[at] = wantedOf(l.open, at-2)
	}
	for _, id := range ids {
		l.states = append(l.states, w.state(id))
	}
	return l
}

func (l look) same(m look) bool {
	for at := range l.served {
		if !slices.Equal(l.served[at], m.served[at]) {
			return false
		}
	}
	return slices.Equal(l.open, m.open) && l.first == m.first && l.wanted == m.wanted && slices.Equal(l.states, m.states)
}

// String tells what is there alone.
func (l look) String() string {
	s := fmt.Sprint("open ", l.open, ", states ", l.states)
	for at := range l.served {
		if l.first[at].is || len(l.served[at]) > 0 {
			s += fmt.Sprint(", station ", at-2, ": ", l.first[at], " served ", l.served[at])
		}
	}
	for at, w := range l.wanted {
		if w.is {
			s += fmt.Sprint(", tote ", at-2, ": ", w.r)
		}
	}
	return s
}

// anySize are numbers of any size: each may be an ID.
func anySize() []int {
	return []int{0, -1, 1, -2, 30, 31, 39, 40, 63, 64, 65, -64, 1 << 16, 1 << 31, 1 << 32, 1<<32 + 1, -1 << 32, math.MinInt, math.MinInt + 1, math.MaxInt - 1, math.MaxInt}
}

// double has a book and its plain form side by side, and holds each call of the one against the other.
type double struct {
	t   testing.TB
	b   *Book
	w   *byWords
	ids []int // those that were said to it
}

func newDouble(t testing.TB) *double {
	t.Helper()
	d := &double{t: t, b: New(), w: &byWords{}, ids: []int{-9999}}
	if d.b == nil {
		t.Fatal("New: nil")
	}
	d.same()
	return d
}

func (d *double) same() {
	d.t.Helper()
	if got, want := lookAt(d.b, d.ids), d.w.look(d.ids); !got.same(want) {
		d.t.Fatalf("%v, not %v", got, want)
	}
}

func (d *double) call(o op) result {
	d.t.Helper()
	if !slices.Contains(d.ids, o.r.ID) {
		d.ids = append(d.ids, o.r.ID)
	}
	before := d.w.look(d.ids)
	got, want := o.onBook(d.b), o.onWords(d.w)
	if got != want {
		d.t.Fatalf("%v: %v: %v, not %v", before, o, got, want)
	}
	d.same()
	return got
}

// does wants a call that is answered with true, or, if it answers none, without an error.
func (d *double) does(ops ...op) {
	d.t.Helper()
	for _, o := range ops {
		if r := d.call(o); r != (result{o.name != "Serve", api.OK}) {
			d.t.Fatalf("%v: %v: %v", d.w.look(d.ids), o, r)
		}
	}
}

func (d *double) add(id, station, tote int) { d.t.Helper(); d.does(addOp(id, station, tote)) }
func (d *double) cancel(id int)             { d.t.Helper(); d.does(cancelOp(id)) }
func (d *double) serve(id int)              { d.t.Helper(); d.does(serveOp(id)) }

// unchanged makes a call, and wants this answer, and nothing changed.
func (d *double) unchanged(o op, want result) {
	d.t.Helper()
	ids := append([]int{o.r.ID}, d.ids...)
	before := lookAt(d.b, ids)
	if r := d.call(o); r != want {
		d.t.Fatalf("%v: %v: %v, not %v", before, o, r, want)
	}
	if after := lookAt(d.b, ids); !after.same(before) {
		d.t.Fatalf("%v: %v: %v became %v", o, want, before, after)
	}
}

// refused wants an error.
func (d *double) refused(o op, e api.Errno) {
	d.t.Helper()
	d.unchanged(o, result{false, e})
}

// heard wants false, without an error.
func (d *double) heard(o op) {
	d.t.Helper()
	d.unchanged(o, result{})
}

// states wants these states of these IDs.
func (d *double) states(want int, ids ...int) {
	d.t.Helper()
	for _, id := range ids {
		if got := d.b.State(id); got != want {
			d.t.Fatalf("State(%d): %d, not %d", id, got, want)
		}
	}
}

// openIDs wants that these are open, in this order.
func (d *double) openIDs(want ...int) {
	d.t.Helper()
	var ids []int
	for _, r := range d.b.Open() {
		ids = append(ids, r.ID)
	}
	if !slices.Equal(ids, want) {
		d.t.Fatalf("Open: %v, not %v", ids, want)
	}
}

// served wants that these were served at a station, in this order.
func (d *double) served(station int, want ...int) {
	d.t.Helper()
	if got := d.b.Served(station); !slices.Equal(got, want) {
		d.t.Fatalf("Served(%d): %v, not %v", station, got, want)
	}
}

// stuff puts so many open requests of a station in, past Add. Totes are few, and each is wanted by one alone: a full book
// can't be had by calls, so these want totes that don't exist.
func (d *double) stuff(from, to, station int) {
	d.t.Helper()
	for id := from; id < to; id++ {
		e := &entry{api.Request{ID: id, Station: station, Tote: 10000 + id}, isOpen}
		d.b.known[id], d.b.open = e, append(d.b.open, e)
		d.w.came = append(d.w.came, line{e.Request, 1})
		d.ids = append(d.ids, id)
	}
	d.same()
}

func TestP16_1_NewHasNone(t *testing.T) {
	d := newDouble(t)
	d.openIDs()
	for _, n := range anySize() {
		d.states(0, n)
		d.refused(cancelOp(n), api.ErrNone)
		d.refused(serveOp(n), api.ErrNone)
		if r, is := d.b.First(n); is || r != (api.Request{}) {
			t.Errorf("First(%d): %v, %v", n, r, is)
		}
		if r, is := d.b.Wanted(n); is || r != (api.Request{}) {
			t.Errorf("Wanted(%d): %v, %v", n, r, is)
		}
		d.served(n)
	}
}

// TestP16_1_NumbersThatAreNoStationOrTote asks for them, and for an empty station and a tote that nobody wants.
func TestP16_1_NumbersThatAreNoStationOrTote(t *testing.T) {
	d := newDouble(t)
	for id := range 30 {
		d.add(id, id%3, id+1)
	}
	for id := range 6 {
		d.serve(id)
	}
	d.cancel(29)
	for _, n := range []int{-1, -40, 3, 39, 40, 41, 1 << 32, 1<<32 + 1, -1 << 32, math.MinInt, math.MaxInt} {
		if r, is := d.b.First(n); is || r != (api.Request{}) {
			t.Errorf("First(%d): %v, %v", n, r, is)
		}
		d.served(n)
	}
	for _, n := range []int{0, -1, 1, 6, 30, 31, 32, 1<<32 + 10, math.MinInt, math.MaxInt} {
		if r, is := d.b.Wanted(n); is || r != (api.Request{}) {
			t.Errorf("Wanted(%d): %v, %v", n, r, is)
		}
	}
}

func TestP16_1_Example(t *testing.T) {
	d := newDouble(t)
	d.add(7, 2, 1)
	d.heard(addOp(7, 2, 1))
	d.refused(addOp(7, 2, 9), api.ErrTwice)
	d.refused(addOp(8, 2, 1), api.ErrTote)
	d.add(9, 2, 3)
	d.refused(serveOp(9), api.ErrBlocked)
	d.serve(7)
	d.served(2, 7)
}

func TestP16_1_EachGoesItsWay(t *testing.T) {
	d := newDouble(t)
	d.add(5, 3, 10)
	d.add(4, 3, 11)
	d.add(3, 8, 12)
	d.openIDs(5, 4, 3)
	d.states(1, 5, 4, 3)
	if r, is := d.b.First(3); r != (api.Request{ID: 5, Station: 3, Tote: 10}) || !is {
		t.Errorf("First(3): %v, %v", r, is)
	}
	if r, is := d.b.Wanted(12); r != (api.Request{ID: 3, Station: 8, Tote: 12}) || !is {
		t.Errorf("Wanted(12): %v, %v", r, is)
	}
	d.serve(3)
	d.openIDs(5, 4)
	d.served(8, 3)
	d.states(2, 3)
	d.cancel(5)
	d.openIDs(4)
	d.states(3, 5)
	d.serve(4)
	d.openIDs()
	d.served(3, 4)
	d.states(2, 4, 3)
	for _, station := range []int{3, 8} {
		if r, is := d.b.First(station); is || r != (api.Request{}) {
			t.Errorf("First(%d): %v, %v", station, r, is)
		}
	}
}

func TestP16_1_AddAtTheEdgesOfItsRanges(t *testing.T) {
	for _, station := range []int{0, 1, 38, 39} {
		for _, tote := range []int{1, 2, 29, 30} {
			d := newDouble(t)
			d.add(1, station, tote)
			if r, is := d.b.First(station); r != (api.Request{ID: 1, Station: station, Tote: tote}) || !is {
				t.Errorf("First(%d): %v, %v", station, r, is)
			}
			if r, is := d.b.Wanted(tote); r != (api.Request{ID: 1, Station: station, Tote: tote}) || !is {
				t.Errorf("Wanted(%d): %v, %v", tote, r, is)
			}
			d.serve(1)
			d.served(station, 1)
		}
	}
}

// wrong are requests with a station or a tote outside.
func wrong(id int) []op {
	var list []op
	for _, n := range []int{-1, 40, 41, -2, 1 << 32, 1<<32 + 2, math.MinInt, math.MaxInt} {
		list = append(list, addOp(id, n, 5), addOp(id, n, 1), addOp(id, n, 30), addOp(id, n, 0), addOp(id, n, 31))
	}
	for _, n := range []int{0, -1, 31, 32, 1 << 32, 1<<32 + 5, math.MinInt, math.MaxInt} {
		list = append(list, addOp(id, 2, n), addOp(id, 0, n), addOp(id, 39, n))
	}
	return list
}

// TestP16_1_AddOutsideItsRanges: whether the ID is new, open, served or cancelled, and when the book is full too.
func TestP16_1_AddOutsideItsRanges(t *testing.T) {
	for _, id := range anySize() {
		d := newDouble(t)
		check := func(state int) {
			for _, o := range wrong(id) {
				d.refused(o, api.ErrRange)
			}
			d.states(state, id)
		}
		check(0)
		d.add(id, 2, 5)
		check(1)
		d.serve(id)
		check(2)
		d = newDouble(t)
		d.add(id, 2, 5)
		d.cancel(id)
		check(3)
		d = newDouble(t)
		d.stuff(1000, 1064, 4)
		check(0)
	}
}

// TestP16_1_AKnownIDThatSaysSomethingElse: ErrTwice comes ahead of ErrTote and of ErrFull.
func TestP16_1_AKnownIDThatSaysSomethingElse(t *testing.T) {
	others := func() []op {
		return []op{addOp(7, 3, 5), addOp(7, 1, 5), addOp(7, 2, 4), addOp(7, 2, 6), addOp(7, 3, 6), addOp(7, 0, 1), addOp(7, 5, 2), addOp(7, 2, 20)}
	}
	for _, full := range []bool{false, true} {
		for state := 1; state <= 3; state++ {
			d := newDouble(t)
			d.add(7, 2, 5)
			switch state {
			case 2:
				d.serve(7)
			case 3:
				d.cancel(7)
			}
			d.add(8, 3, 20) // its tote is one that some of the others say
			if full {
				d.stuff(1000, 1064-len(d.b.Open()), 4)
			}
			for _, o := range others() {
				d.refused(o, api.ErrTwice)
				d.states(state, 7)
			}
			d.heard(addOp(7, 2, 5))
		}
	}
}

// TestP16_1_SaidAgainWhereAnotherOneWantsItsTote: what was heard already is heard again, whoever wants its tote by now.
func TestP16_1_SaidAgainWhereAnotherOneWantsItsTote(t *testing.T) {
	for _, end := range []op{serveOp(7), cancelOp(7)} {
		for _, full := range []bool{false, true} {
			d := newDouble(t)
			d.add(7, 2, 5)
			d.does(end)
			d.add(8, 2, 5)
			if full {
				d.stuff(1000, 1063, 4)
			}
			d.heard(addOp(7, 2, 5))
			d.refused(addOp(9, 2, 5), api.ErrTote)
		}
	}
}

// TestP16_1_AToteIsWantedOnce: at the same station and at others, and ahead of ErrFull.
func TestP16_1_AToteIsWantedOnce(t *testing.T) {
	for _, full := range []bool{false, true} {
		d := newDouble(t)
		d.add(1, 2, 5)
		d.add(2, 0, 30)
		d.add(3, 39, 1)
		if full {
			d.stuff(1000, 1061, 4)
		}
		for _, station := range []int{0, 2, 4, 39} {
			for _, tote := range []int{1, 5, 30} {
				for _, id := range []int{4, 0, -1, math.MaxInt, math.MinInt} {
					d.refused(addOp(id, station, tote), api.ErrTote)
					d.states(0, id)
				}
			}
		}
	}
}

// TestP16_1_AToteIsWantedAgain: as soon as its request is served, or cancelled.
func TestP16_1_AToteIsWantedAgain(t *testing.T) {
	for _, end := range []func(id int) op{serveOp, cancelOp} {
		d := newDouble(t)
		for id := range 50 {
			d.add(id, 2+id%3, 5)
			d.refused(addOp(id+1, 2, 5), api.ErrTote)
			d.does(end(id))
			if r, is := d.b.Wanted(5); is || r != (api.Request{}) {
				t.Fatalf("Wanted(5): %v, %v", r, is)
			}
		}
	}
}

// TestP16_1_AllTotesAreWanted: as many are open as there are totes, and each more wants one that is wanted.
func TestP16_1_AllTotesAreWanted(t *testing.T) {
	d := newDouble(t)
	for tote := 1; tote <= 30; tote++ {
		d.add(tote, tote%4, tote)
	}
	for tote := 1; tote <= 30; tote++ {
		d.refused(addOp(100+tote, 9, tote), api.ErrTote)
		d.heard(addOp(tote, tote%4, tote))
	}
	d.cancel(15)
	d.serve(4)
	d.add(115, 3, 15)
	d.add(104, 3, 4)
	d.refused(addOp(200, 9, 15), api.ErrTote)
	if n := len(d.b.Open()); n != 30 {
		t.Errorf("%d are open", n)
	}
}

// TestP16_1_AsManyOpenAsTheBookHas: 64 open ones, one more, and one that has room again.
func TestP16_1_AsManyOpenAsTheBookHas(t *testing.T) {
	for _, end := range []op{serveOp(1000), serveOp(9), cancelOp(1000), cancelOp(1030), cancelOp(1061), cancelOp(9)} {
		d := newDouble(t)
		d.add(9, 7, 20)
		d.stuff(1000, 1062, 4)
		d.add(10, 7, 21)
		for _, id := range []int{11, 0, -1, math.MaxInt, math.MinInt} {
			for _, station := range []int{0, 4, 7, 39} {
				d.refused(addOp(id, station, 1), api.ErrFull)
				d.refused(addOp(id, station, 30), api.ErrFull)
				d.refused(addOp(id, station, 20), api.ErrTote)
				d.refused(addOp(id, station, 21), api.ErrTote)
			}
			d.states(0, id)
		}
		d.heard(addOp(9, 7, 20))
		d.refused(addOp(9, 7, 1), api.ErrTwice)
		d.does(end)
		d.add(11, 4, 1)
		d.refused(addOp(12, 4, 2), api.ErrFull)
		d.states(0, 12)
		if n := len(d.b.Open()); n != 64 {
			t.Errorf("%d are open", n)
		}
	}
}

// TestP16_1_ARefusedIDIsNotInIt: it may come later, and say something else.
func TestP16_1_ARefusedIDIsNotInIt(t *testing.T) {
	d := newDouble(t)
	d.add(1, 2, 5)
	d.refused(addOp(2, 2, 5), api.ErrTote)
	d.refused(addOp(2, -1, 6), api.ErrRange)
	d.refused(addOp(2, 3, 31), api.ErrRange)
	d.states(0, 2)
	d.refused(cancelOp(2), api.ErrNone)
	d.refused(serveOp(2), api.ErrNone)
	d.add(2, 3, 6)
	d.states(1, 2)
}

func TestP16_1_CancelOfWhatIsNotOpen(t *testing.T) {
	d := newDouble(t)
	d.add(1, 2, 5)
	d.add(2, 2, 6)
	d.add(3, 2, 7)
	d.serve(1)
	d.cancel(3)
	for range 3 {
		d.refused(cancelOp(1), api.ErrState)
		d.heard(cancelOp(3))
		d.refused(cancelOp(4), api.ErrNone)
		d.refused(cancelOp(1+1<<32), api.ErrNone)
		d.refused(cancelOp(-2), api.ErrNone)
	}
	d.openIDs(2)
}

func TestP16_1_ServeOfWhatIsNotOpen(t *testing.T) {
	d := newDouble(t)
	d.add(1, 2, 5)
	d.add(2, 2, 6)
	d.add(3, 2, 7)
	d.serve(1)
	d.cancel(3)
	for range 3 {
		d.refused(serveOp(1), api.ErrState)
		d.refused(serveOp(3), api.ErrState)
		d.refused(serveOp(4), api.ErrNone)
		d.refused(serveOp(2+1<<32), api.ErrNone)
		d.refused(serveOp(-2), api.ErrNone)
	}
	d.served(2, 1)
}

// TestP16_1_ServeAtSeveralStations: one is blocked by those of its own station alone.
func TestP16_1_ServeAtSeveralStations(t *testing.T) {
	stations := []int{0, 39, 20, 1}
	d := newDouble(t)
	for n := range 28 {
		d.add(n, stations[n%4], n+1)
	}
	for _, at := range []int{3, 1, 0, 2} {
		for n := at; n < 28; n += 4 {
			for later := n + 4; later < 28; later += 4 {
				d.refused(serveOp(later), api.ErrBlocked)
			}
			d.serve(n)
		}
	}
	for at, station := range stations {
		d.served(station, at, at+4, at+8, at+12, at+16, at+20, at+24)
	}
	d.openIDs()
}

// TestP16_1_CancelAtEachPlace: the first, one in the middle, and the last of a station's open requests.
func TestP16_1_CancelAtEachPlace(t *testing.T) {
	for many := 1; many <= 6; many++ {
		for gone := range many {
			d := newDouble(t)
			for id := range many {
				d.add(id, 3, 1+id)
				d.add(100+id, 4, 20+id)
			}
			d.cancel(gone)
			var rest []int
			for id := range many {
				if id == gone {
					d.refused(serveOp(id), api.ErrState)
					continue
				}
				if r, is := d.b.First(3); r.ID != id || !is {
					t.Fatalf("First(3): %v, %v, not %d", r, is, id)
				}
				d.serve(id)
				rest = append(rest, id)
			}
			d.served(3, rest...)
			d.served(4)
		}
	}
}

func TestP16_1_IDsOfAnySize(t *testing.T) {
	ids := anySize()
	d := newDouble(t)
	for at, id := range ids {
		d.states(0, id)
		d.add(id, 2, at+1)
		d.heard(addOp(id, 2, at+1))
		d.refused(addOp(id, 3, at+1), api.ErrTwice)
	}
	d.openIDs(ids...)
	d.states(1, ids...)
	for at, id := range ids {
		for _, other := range ids[at+1:] {
			d.refused(serveOp(other), api.ErrBlocked)
		}
		d.serve(id)
		d.refused(cancelOp(id), api.ErrState)
	}
	d.served(2, ids...)
	d.states(2, ids...)
	d = newDouble(t)
	for _, id := range ids {
		d.add(id, 39, 1)
		d.cancel(id)
		d.heard(cancelOp(id))
	}
	d.states(3, ids...)
}

// TestP16_1_ManyOverTime: many more than 64, each served or cancelled; the book knows of all of them.
func TestP16_1_ManyOverTime(t *testing.T) {
	b := New()
	said := func(id int) api.Request { return api.Request{ID: id, Station: id % 7, Tote: 1 + id%30} }
	var served [7][]int
	const many = 3000
	for id := range many {
		if yes, e := b.Add(said(id)); !yes || e != api.OK {
			t.Fatalf("Add(%v): %v, %d", said(id), yes, e)
		}
		// The last twenty stay open, and the oldest one of these goes.
		old := id - 20
		switch {
		case old < 0:
		case old%3 == 0:
			if yes, e := b.Cancel(old); !yes || e != api.OK {
				t.Fatalf("Cancel(%d): %v, %d", old, yes, e)
			}
		default:
			if e := b.Serve(old); e != api.OK {
				t.Fatalf("Serve(%d): %d", old, e)
			}
			served[old%7] = append(served[old%7], old)
		}
	}
	for id := range many {
		want := 2
		if id%3 == 0 {
			want = 3
		}
		if id >= many-20 {
			want = 1
		}
		if got := b.State(id); got != want {
			t.Fatalf("State(%d): %d", id, got)
		}
		if yes, e := b.Add(said(id)); yes || e != api.OK {
			t.Fatalf("Add(%v): %v, %d", said(id), yes, e)
		}
		other := said(id)
		other.Station++
		if yes, e := b.Add(other); yes || e != api.ErrTwice {
			t.Fatalf("Add(%v): %v, %d", other, yes, e)
		}
	}
	for station, ids := range served {
		if got := b.Served(station); !slices.Equal(got, ids) {
			t.Fatalf("Served(%d): %v, not %v", station, got, ids)
		}
	}
	if len(b.Open()) != 20 {
		t.Errorf("Open: %v", b.Open())
	}
}

// replay has a book on which these calls were made, each held against the words.
func replay(t *testing.T, calls []op) {
	t.Helper()
	d := newDouble(t)
	for _, o := range calls {
		d.call(o)
	}
}

// everyList calls each list of so many calls.
func everyList(t *testing.T, ops, ahead []op, length int) {
	t.Helper()
	if length == 0 {
		replay(t, ahead)
		return
	}
	for _, o := range ops {
		everyList(t, ops, append(ahead[:len(ahead):len(ahead)], o), length-1)
	}
}

func TestP16_1_EveryShortListOfCalls(t *testing.T) {
	everyList(t, []op{addOp(0, 0, 1), addOp(1, 0, 2), addOp(1, 39, 2), addOp(2, 0, 1), cancelOp(0), cancelOp(1), serveOp(0), serveOp(1), serveOp(2)}, nil, 4)
	everyList(t, []op{addOp(0, 5, 1), addOp(-1, 5, 2), cancelOp(0), serveOp(0), serveOp(-1)}, nil, 6)
}

// TestP16_1_EveryCallInEveryState: three requests, in each order, at the same station or apart, each in each state; each call.
func TestP16_1_EveryCallInEveryState(t *testing.T) {
	orders := [][]int{{1, 2, 3}, {1, 3, 2}, {2, 1, 3}, {2, 3, 1}, {3, 1, 2}, {3, 2, 1}}
	for _, order := range orders {
		for apart := range 8 {
			for states := range 27 {
				build := func() *double {
					d := newDouble(t)
					for at, id := range order {
						d.add(id, 5+apart>>at&1, 10+id)
					}
					for at, id := range order {
						switch states / []int{1, 3, 9}[at] % 3 {
						case 1:
							d.call(serveOp(id)) // it may be blocked, and stay open
						case 2:
							d.cancel(id)
						}
					}
					return d
				}
				for id := 1; id <= 4; id++ {
					ops := []op{cancelOp(id), serveOp(id), addOp(id, 40, 11)}
					for tote := 11; tote <= 14; tote++ {
						ops = append(ops, addOp(id, 5, tote), addOp(id, 6, tote))
					}
					for _, o := range ops {
						d := build()
						if r := d.call(o); o.name != "Serve" && !r.yes || r.e != api.OK {
							d.unchanged(o, r)
						}
					}
				}
			}
		}
	}
}

// chanceOp is a call by chance: now of a request that is known, now of any.
func chanceOp(rnd *rand.Rand, d *double, stations int) op {
	r := api.Request{ID: rnd.Intn(4000) - 1000, Station: rnd.Intn(stations), Tote: 1 + rnd.Intn(30)}
	open := d.w.open()
	switch n := rnd.Intn(10); {
	case n == 0 && len(d.w.came) > 0:
		r = d.w.came[rnd.Intn(len(d.w.came))].says
	case n == 1 && len(d.w.came) > 0:
		r.ID = d.w.came[rnd.Intn(len(d.w.came))].says.ID
	case n <= 4 && len(open) > 0:
		r = open[rnd.Intn(len(open))]
	case n == 5 && len(open) > 0:
		r = open[0]
	case n == 6:
		r.ID = anySize()[rnd.Intn(len(anySize()))]
	case n == 7:
		r.Station, r.Tote = rnd.Intn(44)-2, rnd.Intn(34)-2
	case n == 8 && len(open) > 0:
		r = open[rnd.Intn(len(open))]
		r.Station, r.Tote = 40*rnd.Intn(2), 31*rnd.Intn(2)
	}
	ops := []op{{"Add", r}, {"Add", r}, {"Add", r}, {"Add", r}, cancelOp(r.ID), serveOp(r.ID), serveOp(r.ID)}
	return ops[rnd.Intn(len(ops))]
}

// chanceRun calls f with a double and call by call what comes by chance.
func chanceRun(t *testing.T, stations, calls, seed int, f func(d *double, o op)) {
	t.Helper()
	rnd := rand.New(rand.NewSource(int64(seed)))
	d := newDouble(t)
	for range calls {
		f(d, chanceOp(rnd, d, stations))
	}
}

func TestP16_1_LongListsOfCalls(t *testing.T) {
	count := map[string]int{}
	for _, stations := range []int{1, 2, 3, 7, 40} {
		for run := range 3 {
			chanceRun(t, stations, 1500, 100*stations+run, func(d *double, o op) {
				state := d.b.State(o.r.ID)
				r := d.call(o)
				count[fmt.Sprint(o.name, " in state ", state, ": ", r.yes, " ", int(r.e))]++
			})
		}
	}
	for _, way := range []string{
		"Add in state 0: true 0", "Add in state 0: false 1", "Add in state 0: false 160",
		"Add in state 1: false 0", "Add in state 1: false 1", "Add in state 1: false 2",
		"Add in state 2: false 0", "Add in state 2: false 2", "Add in state 3: false 0", "Add in state 3: false 2",
		"Cancel in state 0: false 4", "Cancel in state 1: true 0", "Cancel in state 2: false 140", "Cancel in state 3: false 0",
		"Serve in state 0: false 4", "Serve in state 1: false 0", "Serve in state 1: false 110", "Serve in state 2: false 140", "Serve in state 3: false 140",
	} {
		if count[way] < 50 {
			t.Errorf("%s: %d times", way, count[way])
		}
	}
}

// TestP16_1_LongListsOfCallsInAFullBook: no more than a few of its places are left, again and again.
func TestP16_1_LongListsOfCallsInAFullBook(t *testing.T) {
	count := map[api.Errno]int{}
	for seed := range 10 {
		rnd := rand.New(rand.NewSource(int64(1600 + seed)))
		d := newDouble(t)
		d.stuff(5000, 5050, 40+seed)
		for range 700 {
			if o := chanceOp(rnd, d, 5); o.r.ID < 5000 || o.name == "Add" {
				count[d.call(o).e]++
			}
		}
	}
	for _, e := range []api.Errno{api.OK, api.ErrFull, api.ErrTote, api.ErrTwice, api.ErrRange, api.ErrBlocked} {
		if count[e] < 20 {
			t.Errorf("%d was answered %d times", e, count[e])
		}
	}
}

func TestP16_1_WhatIsRefusedChangesNothing(t *testing.T) {
	for stations := 1; stations <= 5; stations++ {
		chanceRun(t, stations, 1200, 2000+stations, func(d *double, o op) {
			ids := append([]int{o.r.ID}, d.ids...)
			before := lookAt(d.b, ids)
			r := d.call(o)
			if after := lookAt(d.b, ids); r.e != api.OK && !after.same(before) {
				t.Fatalf("%v: %d: %v became %v", o, r.e, before, after)
			}
			if r.e != api.OK && r.yes {
				t.Fatalf("%v: %v", o, r)
			}
		})
	}
}

// diary is what happened to a book, by its answers alone.
type diary struct {
	came []api.Request // all that weren't cancelled
	done []int
}

// write takes an answered call over.
func (y *diary) write(o op, r result) {
	switch {
	case r.e != api.OK:
	case o.name == "Add" && r.yes:
		y.came = append(y.came, o.r)
	case o.name == "Cancel" && r.yes:
		y.came = slices.DeleteFunc(y.came, func(c api.Request) bool { return c.ID == o.r.ID })
	case o.name == "Serve":
		y.done = append(y.done, o.r.ID)
	}
}

// at are the IDs of those that came to a station, and of those that were served there.
func (y *diary) at(station int) (came, done []int) {
	for _, r := range y.came {
		if r.Station == station {
			came = append(came, r.ID)
		}
	}
	for _, id := range y.done {
		if slices.Contains(came, id) {
			done = append(done, id)
		}
	}
	return came, done
}

// check wants that those that were served at a station are the first of those that came to it, and that the book tells so.
func (y *diary) check(t *testing.T, b *Book) {
	t.Helper()
	all := 0
	for station := range 40 {
		came, done := y.at(station)
		if len(done) > len(came) || !slices.Equal(done, came[:len(done)]) {
			t.Fatalf("station %d: %v came, %v were served", station, came, done)
		}
		if got := b.Served(station); !slices.Equal(got, done) {
			t.Fatalf("Served(%d): %v, not %v", station, got, done)
		}
		r, is := b.First(station)
		if is != (len(done) < len(came)) || is && r.ID != came[len(done)] {
			t.Fatalf("station %d: %v came, %v were served, First: %v, %v", station, came, done, r, is)
		}
		all += len(done)
	}
	if all != len(y.done) {
		t.Fatalf("%d were served, %d are told", len(y.done), all)
	}
}

func TestP16_2_InTheOrderInWhichTheyCame(t *testing.T) {
	for _, stations := range []int{1, 2, 3, 5, 40} {
		y := &diary{}
		chanceRun(t, stations, 1500, 3000+stations, func(d *double, o op) {
			y.write(o, d.call(o))
			y.check(t, d.b)
		})
		if len(y.done) < 50 {
			t.Errorf("%d stations: %d were served", stations, len(y.done))
		}
	}
}

// TestP16_2_WhoeverTriesToBeServed has all requests try, by chance, again and again, till none is open.
func TestP16_2_WhoeverTriesToBeServed(t *testing.T) {
	rnd := rand.New(rand.NewSource(162))
	for stations := 1; stations <= 6; stations++ {
		b, y := New(), &diary{}
		do := func(o op) {
			y.write(o, o.onBook(b))
			y.check(t, b)
		}
		for _, id := range rnd.Perm(30) {
			do(addOp(id, rnd.Intn(stations), id+1))
		}
		for _, id := range rnd.Perm(30)[:10] {
			do(cancelOp(id))
		}
		for rounds := 0; len(b.Open()) > 0; rounds++ {
			if rounds == 30 {
				t.Fatalf("%v are open still", b.Open())
			}
			for _, id := range rnd.Perm(30) {
				do(serveOp(id))
			}
		}
		if len(y.done) != 20 {
			t.Errorf("%d were served", len(y.done))
		}
	}
}

// TestP16_2_OneOfEachStationCanBeServed: whatever was called, the first one of a station is the one that can be served.
func TestP16_2_OneOfEachStationCanBeServed(t *testing.T) {
	for stations := 1; stations <= 6; stations++ {
		chanceRun(t, stations, 400, 4000+stations, func(d *double, o op) {
			d.call(o)
			var can []int
			for _, r := range slices.Backward(d.b.Open()) {
				if d.w.serve(r.ID) == api.OK {
					can = append(can, r.Station)
					if e := d.b.Serve(r.ID); e != api.OK {
						t.Fatalf("Serve(%d): %d", r.ID, e)
					}
				} else if e := d.b.Serve(r.ID); e != api.ErrBlocked {
					t.Fatalf("Serve(%d): %d", r.ID, e)
				}
			}
			slices.Sort(can)
			if len(slices.Compact(can)) != len(can) {
				t.Fatalf("served at %v", can)
			}
			d.same()
		})
	}
}

// TestP16_3_SaidTwice: a book to which each thing is said twice, or thrice, answers as the one to which it is said once.
func TestP16_3_SaidTwice(t *testing.T) {
	heard := 0
	for stations := 1; stations <= 6; stations++ {
		often := New()
		chanceRun(t, stations, 1500, 5000+stations, func(d *double, o op) {
			once, again := d.call(o), o.onBook(often)
			if once != again {
				t.Fatalf("%v: %v, and %v of the one that hears all twice", o, once, again)
			}
			if o.name != "Serve" && once.yes {
				for range 2 {
					if r := o.onBook(often); r != (result{}) {
						t.Fatalf("%v, said again: %v", o, r)
					}
					heard++
				}
			} else if o.name != "Serve" {
				if r := o.onBook(often); r != once {
					t.Fatalf("%v: %v, said again: %v", o, once, r)
				}
			}
			if a, b := lookAt(d.b, d.ids), lookAt(often, d.ids); !a.same(b) {
				t.Fatalf("%v: %v, and %v of the one that hears all twice", o, a, b)
			}
		})
	}
	if heard < 1000 {
		t.Errorf("%d were said again", heard)
	}
}

// TestP16_3_SaidAgainMuchLater says all that was ever said again, when much has happened.
func TestP16_3_SaidAgainMuchLater(t *testing.T) {
	var said []op
	var last *double
	chanceRun(t, 4, 1500, 163, func(d *double, o op) {
		if r := d.call(o); r.yes {
			said = append(said, o)
		}
		last = d
	})
	for _, o := range said {
		if o.name == "Add" || last.b.State(o.r.ID) == 3 {
			last.heard(o)
		}
	}
	if len(said) < 200 {
		t.Errorf("%d were said", len(said))
	}
}

func TestP16_3_SaidAgainInEachState(t *testing.T) {
	d := newDouble(t)
	d.add(1, 2, 5)
	d.heard(addOp(1, 2, 5))
	d.add(2, 2, 6)
	d.heard(addOp(1, 2, 5))
	d.openIDs(1, 2)
	d.serve(1)
	d.heard(addOp(1, 2, 5))
	d.states(2, 1)
	d.cancel(2)
	d.heard(cancelOp(2))
	d.heard(addOp(2, 2, 6))
	d.heard(cancelOp(2))
	d.states(3, 2)
	d.openIDs()
	d.served(2, 1)
}

// overlap tells whether two lists share memory, spare room too.
func overlap[A, B any](a []A, b []B) bool {
	if cap(a) == 0 || cap(b) == 0 {
		return false
	}
	var one A
	var other B
	x, y := uintptr(unsafe.Pointer(unsafe.SliceData(a))), uintptr(unsafe.Pointer(unsafe.SliceData(b)))
	return x < y+uintptr(cap(b))*unsafe.Sizeof(other) && y < x+uintptr(cap(a))*unsafe.Sizeof(one)
}

// scribble writes over a list, spare room too.
func scribble[T any](list []T, with T) {
	room := list[:cap(list)]
	for i := range room {
		room[i] = with
	}
}

// TestP16_4_AnswersAreNewMemory writes over each answer, and holds the book and the answers behind it against the words.
func TestP16_4_AnswersAreNewMemory(t *testing.T) {
	for stations := 1; stations <= 4; stations++ {
		chanceRun(t, stations, 700, 6000+stations, func(d *double, o op) {
			d.call(o)
			opens := [][]api.Request{d.b.Open(), d.b.Open()}
			if overlap(opens[0], opens[1]) {
				t.Fatalf("%v is answered twice", opens[0])
			}
			var lists [][]int
			for station := range stations {
				lists = append(lists, d.b.Served(station), d.b.Served(station))
			}
			for at, list := range lists {
				for _, other := range lists[:at] {
					if overlap(list, other) {
						t.Fatalf("%v and %v share memory", list, other)
					}
				}
				if overlap(list, opens[0]) {
					t.Fatalf("%v and %v share memory", list, opens[0])
				}
			}
			for _, list := range lists {
				scribble(list, 12345)
			}
			d.same()
			for _, list := range opens {
				scribble(list, api.Request{ID: 1, Station: 2, Tote: 3})
			}
			d.same()
		})
	}
}

// TestP16_4_AnswersStayAsTheyWere keeps answers, and looks whether later calls change them.
func TestP16_4_AnswersStayAsTheyWere(t *testing.T) {
	for stations := 1; stations <= 3; stations++ {
		var opens, opensWere [][]api.Request
		var lists, listsWere [][]int
		chanceRun(t, stations, 1000, 7000+stations, func(d *double, o op) {
			open, list := d.b.Open(), d.b.Served(0)
			opens, opensWere = append(opens, open), append(opensWere, slices.Clone(open))
			lists, listsWere = append(lists, list), append(listsWere, slices.Clone(list))
			d.call(o)
		})
		for i := range opens {
			if !slices.Equal(opens[i], opensWere[i]) || !slices.Equal(lists[i], listsWere[i]) {
				t.Fatalf("%v and %v were answered, and now they are %v and %v", opensWere[i], listsWere[i], opens[i], lists[i])
			}
		}
	}
}

// TestP16_4_SpareRoomIsNotTheBooks appends to answers, where a piece of the book itself would have room left.
func TestP16_4_SpareRoomIsNotTheBooks(t *testing.T) {
	d := newDouble(t)
	for id := range 20 {
		d.add(id, 2, id+1)
	}
	for id := range 5 {
		d.serve(id)
	}
	d.cancel(19)
	open, list := d.b.Open(), d.b.Served(2)
	_, _ = append(open, api.Request{}, api.Request{}), append(list, 9, 9)
	d.add(30, 2, 1)
	d.serve(5)
	d.serve(6)
	_, _ = append(open, api.Request{ID: 8}, api.Request{ID: 8}), append(list, 8, 8)
	d.same()
	d.served(2, 0, 1, 2, 3, 4, 5, 6)
	if len(open) != 14 || open[0].ID != 5 || open[13].ID != 18 || !slices.Equal(list, []int{0, 1, 2, 3, 4}) {
		t.Errorf("the answers became %v and %v", open, list)
	}
}

func TestP7_TwoBooksShareNothing(t *testing.T) {
	for stations := 1; stations <= 4; stations++ {
		rnd := rand.New(rand.NewSource(int64(8000 + stations)))
		a, b := newDouble(t), newDouble(t)
		for range 600 {
			a.call(chanceOp(rnd, a, stations))
			b.call(chanceOp(rnd, b, stations))
			a.same()
			b.same()
		}
	}
}

// TestP7_AskingChangesNothing has two books, and asks the one alone between the calls.
func TestP7_AskingChangesNothing(t *testing.T) {
	for stations := 1; stations <= 4; stations++ {
		quiet := New()
		chanceRun(t, stations, 1000, 9000+stations, func(d *double, o op) {
			d.same()
			if got, want := o.onBook(quiet), d.call(o); got != want {
				t.Fatalf("%v: %v, and %v where nothing was asked", o, want, got)
			}
		})
	}
}

func TestP6_NoCallPanics(t *testing.T) {
	b := New()
	for _, a := range anySize() {
		for _, c := range anySize() {
			for _, n := range anySize() {
				b.Add(api.Request{ID: a, Station: c, Tote: n})
			}
			b.Serve(c)
			b.Cancel(a)
			b.First(a)
			b.Wanted(a)
			b.State(c)
			b.Served(c)
			b.Open()
		}
	}
}
