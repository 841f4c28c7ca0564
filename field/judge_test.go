package field

import (
	"slices"
	"testing"

	"stillage/api"
	"stillage/tele"
)

// move is one that a device is told, or did.
type move struct{ dev, tote, seq int }

// facts are what a list of notes says.
type facts struct {
	where  map[int]int  // tote: node
	told   map[int]move // device: what it was told, and hasn't confirmed
	sent   map[move]bool
	noted  []move // those that are confirmed, in order
	order  []int  // IDs that were accepted, in order
	wanted map[int]api.Request
	ended  map[int]int // ID: 2 served, 3 cancelled
}

func factsOf(l api.Layout, notes []api.Note) *facts {
	f := &facts{where: map[int]int{}, told: map[int]move{}, sent: map[move]bool{}, wanted: map[int]api.Request{}, ended: map[int]int{}}
	for _, n := range notes {
		switch n.Kind {
		case api.JPut:
			f.where[n.A] = n.B
		case api.JOrder:
			f.order = append(f.order, n.A)
			f.wanted[n.A] = api.Request{ID: n.A, Station: n.B, Tote: n.C}
		case api.JCancel:
			f.ended[n.A] = 3
		case api.JServed:
			f.ended[n.A] = 2
		case api.JSend:
			f.told[n.A] = move{n.A, n.B, n.C}
			f.sent[f.told[n.A]] = true
		case api.JMoved:
			f.noted = append(f.noted, f.told[n.A])
			f.where[n.B] = l.Edges[n.A-1][1]
			delete(f.told, n.A)
		case api.JDropped:
			delete(f.told, n.A)
		}
	}
	return f
}

// judge watches a field, act by act, and holds that the promises of the whole are kept. What really happens it sees at the plant; what
// the tape has is what will be opened again.
type judge struct {
	t         testing.TB
	f         *Field
	by        func(Act) api.Errno // does an act
	l         api.Layout
	totes     [][2]int
	real      [31]int
	done      []move // in order, as they were seen
	accepted  []api.Request
	cancelled map[int]bool
	served    map[int][]int // station: IDs, as they were told last
	said      []any
}

func newJudge(t testing.TB, f *Field, l api.Layout, totes [][2]int) *judge {
	j := &judge{t: t, f: f, by: f.Do, l: l, totes: totes, cancelled: map[int]bool{}, served: map[int][]int{}}
	j.look()
	for _, one := range totes {
		if j.real[one[0]] != one[1] {
			t.Fatalf("the tote %d stands at %d, was put at %d", one[0], j.real[one[0]], one[1])
		}
	}
	j.holds()
	return j
}

func (j *judge) look() {
	for tote := range j.real {
		j.real[tote] = j.f.Real(tote)
	}
}

// going is the telegram that an act has go to the plant.
func (j *judge) going(a Act) (api.Tele, bool) {
	if a.Kind != Down || len(j.f.down) == 0 {
		return api.Tele{}, false
	}
	t, _ := tele.Decode(j.f.down[modulo(a.N, len(j.f.down))])
	return t, true
}

// do does an act, and holds all promises behind it.
func (j *judge) do(a Act) api.Errno {
	j.t.Helper()
	j.said = append(j.said, show(a))
	was, moves, state, wasDead := j.real, j.f.Moves(), 0, j.f.Dead()
	switch a.Kind {
	case Order:
		state = j.f.State(a.Request.ID)
	case Cancel:
		state = j.f.State(a.N)
	}
	t, is := j.going(a)
	e := j.by(a)
	j.look()
	j.onlyWhatWasTold(t, is, was, moves)
	switch {
	case a.Kind == Tick && e != api.OK && !j.f.Dead():
		j.t.Fatalf("%v: %d, though it lives", j.said, e)
	case wasDead && (a.Kind == Order || a.Kind == Cancel || a.Kind == Tick) && e != api.ErrDead:
		j.t.Fatalf("%v: %d of a dead one", j.said, e)
	case a.Kind == Order && e == api.OK && state == 0:
		j.accepted = append(j.accepted, a.Request)
	case a.Kind == Cancel && e == api.OK && state == 1:
		j.cancelled[a.N] = true
	}
	j.holds()
	return e
}

// settle holds all promises behind a Settle, of which it sees the end alone: what is done is taken from the tape.
func (j *judge) settle(n int) (int, api.Errno) {
	j.t.Helper()
	j.said = append(j.said, "Settle")
	rounds, e := j.f.Settle(n)
	j.look()
	f := factsOf(j.l, j.f.tape.Read())
	j.done = f.noted
	for dev := 1; dev <= len(j.l.Edges); dev++ {
		if m, told := f.told[dev]; told && j.real[m.tote] != f.where[m.tote] {
			j.done = append(j.done, m)
		}
	}
	j.holds()
	return rounds, e
}

// onlyWhatWasTold holds that nothing moved but what the telegram said, if there was one, and that it was noted ahead.
func (j *judge) onlyWhatWasTold(t api.Tele, is bool, was [31]int, moves int) {
	moved := 0
	for tote := range was {
		if was[tote] == j.real[tote] {
			continue
		}
		moved++
		m := move{int(t.Dev), tote, int(t.Seq)}
		if !is || t.Kind != api.TMove || int(t.A) != tote || j.l.Edges[t.Dev-1] != [2]int{was[tote], j.real[tote]} {
			j.t.Fatalf("behind %v: the tote %d went from %d to %d, told by %v", j.said, tote, was[tote], j.real[tote], t)
		}
		if !factsOf(j.l, j.f.tape.Read()).sent[m] {
			j.t.Fatalf("behind %v: %v isn't on the tape", j.said, m)
		}
		j.done = append(j.done, m)
	}
	if j.f.Moves() != moves+moved {
		j.t.Fatalf("behind %v: %d moves, were %d; %d totes moved", j.said, j.f.Moves(), moves, moved)
	}
}

// holds holds all promises that are about a state.
func (j *judge) holds() {
	f := factsOf(j.l, j.f.tape.Read())
	j.isSafe()
	j.isTrue(f)
	j.isInOrder(f)
	if j.f.Dead() {
		return // what it tells by now isn't promised; what is on its tape was looked at
	}
	j.tells(f)
	j.pathsAreApart()
}

// isSafe: each tote is there, each at a node of its own.
func (j *judge) isSafe() {
	at := map[int]int{}
	for _, one := range j.totes {
		node := j.real[one[0]]
		if node < 0 || at[node] != 0 {
			j.t.Fatalf("behind %v: the tote %d is at %d, and so is %d", j.said, one[0], node, at[node])
		}
		at[node] = one[0]
	}
	for tote, node := range j.real {
		if node != -1 && at[node] != tote {
			j.t.Fatalf("behind %v: the tote %d came from nowhere to %d", j.said, tote, node)
		}
	}
}

// isTrue: each tote is where the notes have it, or was told to move, and is at that edge's end. As many moves are done as are noted, and
// those that were told and are done; tote by tote and device by device in the order in which they were done.
func (j *judge) isTrue(f *facts) {
	ahead := map[int]move{} // tote: what it was told, and did already
	for dev, m := range f.told {
		edge := j.l.Edges[dev-1]
		if f.where[m.tote] == edge[0] && j.real[m.tote] == edge[1] {
			ahead[m.tote] = m
		}
	}
	ofTote := func(m move) int { return m.tote }
	notedOf, doneOf := sorted(f.noted, ofTote), sorted(j.done, ofTote)
	for _, one := range j.totes {
		tote := one[0]
		m, is := ahead[tote]
		if f.where[tote] != j.real[tote] && !is {
			j.t.Fatalf("behind %v: the tote %d is at %d, noted at %d", j.said, tote, j.real[tote], f.where[tote])
		}
		noted := notedOf[tote]
		if is {
			noted = append(noted, m)
		}
		if done := doneOf[tote]; !slices.Equal(done, noted) {
			j.t.Fatalf("behind %v: the tote %d did %v, noted %v", j.said, tote, done, noted)
		}
	}
	if j.f.Moves() != len(j.done) || len(j.done) != len(f.noted)+len(ahead) {
		j.t.Fatalf("behind %v: %d moves, %d seen, %d noted, %d ahead", j.said, j.f.Moves(), len(j.done), len(f.noted), len(ahead))
	}
	ofDev := func(m move) int { return m.dev }
	notedBy, doneBy := sorted(f.noted, ofDev), sorted(j.done, ofDev)
	for dev, done := range doneBy {
		noted := notedBy[dev]
		if len(done)-len(noted) > 1 || !slices.Equal(done[:min(len(noted), len(done))], noted) {
			j.t.Fatalf("behind %v: the device %d did %v, noted %v", j.said, dev, done, noted)
		}
	}
}

// sorted are moves by what they are of, each in order.
func sorted(l []move, of func(move) int) map[int][]move {
	by := map[int][]move{}
	for _, m := range l {
		by[of(m)] = append(by[of(m)], m)
	}
	return by
}

// isInOrder: what was accepted is on the tape, in order, and nothing else; at each station a beginning of what was accepted there and not
// cancelled is served.
func (j *judge) isInOrder(f *facts) {
	var ids []int
	for _, r := range j.accepted {
		ids = append(ids, r.ID)
		if f.wanted[r.ID] != r {
			j.t.Fatalf("behind %v: %v was accepted, noted is %v", j.said, r, f.wanted[r.ID])
		}
	}
	if !slices.Equal(f.order, ids) {
		j.t.Fatalf("behind %v: accepted were %v, noted are %v", j.said, ids, f.order)
	}
	open := map[int]bool{} // stations at which one that was accepted isn't served
	for _, r := range j.accepted {
		switch {
		case j.cancelled[r.ID] != (f.ended[r.ID] == 3):
			j.t.Fatalf("behind %v: cancelled were %v, noted is %v", j.said, j.cancelled, f.ended)
		case f.ended[r.ID] == 0:
			open[r.Station] = true
		case f.ended[r.ID] == 2 && open[r.Station]:
			j.t.Fatalf("behind %v: %v is served, one ahead of it isn't", j.said, r)
		}
	}
}

// tells: a controller that is alive tells what is on its tape, over all that came.
func (j *judge) tells(f *facts) {
	for _, one := range j.totes {
		if j.f.Mirror(one[0]) != f.where[one[0]] {
			j.t.Fatalf("behind %v: the mirror has the tote %d at %d, noted at %d", j.said, one[0], j.f.Mirror(one[0]), f.where[one[0]])
		}
	}
	for dev := 1; dev <= len(j.l.Edges); dev++ {
		tote, seq, told := j.f.Told(dev)
		if m, is := f.told[dev]; told != is || is && m != (move{dev, tote, seq}) {
			j.t.Fatalf("behind %v: the device %d was told %d, %d, %v, noted is %v", j.said, dev, tote, seq, told, m)
		}
	}
	var open []api.Request
	served := map[int][]int{}
	for _, r := range j.accepted {
		state := j.f.State(r.ID)
		if state != max(1, f.ended[r.ID]) {
			j.t.Fatalf("behind %v: the state of %v is %d", j.said, r, state)
		}
		switch state {
		case 1:
			open = append(open, r)
		case 2:
			served[r.Station] = append(served[r.Station], r.ID)
		}
	}
	if !slices.Equal(j.f.Requests(), open) {
		j.t.Fatalf("behind %v: open are %v, want %v", j.said, j.f.Requests(), open)
	}
	for node := range j.l.Nodes {
		got := j.f.Served(node)
		if !slices.Equal(got, served[node]) {
			j.t.Fatalf("behind %v: served at %d: %v, want %v", j.said, node, got, served[node])
		}
		if was := j.served[node]; len(got) < len(was) || !slices.Equal(got[:len(was)], was) {
			j.t.Fatalf("behind %v: served at %d: %v, were %v", j.said, node, got, was)
		}
		j.served[node] = got
	}
}

// pathsAreApart: no node is on two paths, nor on a path where another tote really is, or is to come.
func (j *judge) pathsAreApart() {
	owner := map[int]int{}
	take := func(node, tote int) {
		if other := owner[node]; other != 0 && other != tote {
			j.t.Fatalf("behind %v: the node %d is %d's and %d's", j.said, node, other, tote)
		}
		owner[node] = tote
	}
	for _, one := range j.totes {
		take(j.real[one[0]], one[0])
		for _, dev := range j.f.Path(one[0]) {
			take(j.l.Edges[dev-1][1], one[0])
		}
	}
	for dev := 1; dev <= len(j.l.Edges); dev++ {
		if tote, _, told := j.f.Told(dev); told {
			take(j.l.Edges[dev-1][1], tote)
		}
	}
}
