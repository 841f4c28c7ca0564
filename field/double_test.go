package field

import (
	"bytes"
	"fmt"
	"math"
	"math/big"
	"slices"
	"strings"
	"testing"

	"stillage/api"
	"stillage/control"
	"stillage/layout"
	"stillage/plant"
	"stillage/tape"
	"stillage/tele"
)

const (
	down = 0
	up   = 1
)

// byWords follows the chapter's words apart from the program: a controller, a tape, a plant, and two lists of bytes.
type byWords struct {
	layout api.Layout
	pause  int
	tape   *tape.Tape
	c      *control.Control
	p      *plant.Plant
	lines  [2][][12]byte
}

func newWords(l api.Layout, pause int, totes [][2]int) (*byWords, api.Errno) {
	w := &byWords{layout: api.Layout{Nodes: slices.Clone(l.Nodes), Edges: slices.Clone(l.Edges)}, pause: pause, tape: tape.New()}
	for i, n := range l.Nodes {
		w.layout.Nodes[i].Name = strings.Clone(n.Name)
	}
	c, e := control.Open(w.layout, pause, w.tape)
	if e != api.OK {
		return nil, e
	}
	w.c = c
	w.p, _ = plant.New(w.layout)
	for _, one := range totes {
		if e := c.Put(one[0], one[1]); e != api.OK {
			return nil, e
		}
		if e := w.p.Put(one[0], one[1]); e != api.OK {
			panic(fmt.Sprint("the plant refuses ", one))
		}
	}
	return w, api.OK
}

// modulo reads the bits of n as a number without a sign.
func modulo(n, length int) int {
	all := big.NewInt(int64(n))
	if n < 0 {
		all.Add(all, new(big.Int).Lsh(big.NewInt(1), 64))
	}
	return int(all.Mod(all, big.NewInt(int64(length))).Int64())
}

func (w *byWords) comes(where int, b []byte) {
	if len(w.lines[where]) == 64 {
		return
	}
	w.lines[where] = append(slices.Clone(w.lines[where]), [12]byte(b))
}

func (w *byWords) comesTele(where int, t api.Tele) { w.comes(where, bytesOf(t)) }

// takes answers the telegram at a place, and the line without it.
func (w *byWords) takes(where, n int) ([]byte, bool) {
	old := w.lines[where]
	if len(old) == 0 {
		return nil, false
	}
	at := modulo(n, len(old))
	var left [][12]byte
	for i, b := range old {
		if i != at {
			left = append(left, b)
		}
	}
	w.lines[where] = left
	return old[at][:], true
}

func (w *byWords) toPlant(n int) {
	b, is := w.takes(down, n)
	if !is {
		return
	}
	t, e := tele.Decode(b)
	if e != api.OK {
		panic(fmt.Sprint("in the line down are ", b))
	}
	if answer, is := w.p.Hear(t); is {
		w.comesTele(up, answer)
	}
}

func (w *byWords) toControl(n int) api.Errno {
	b, is := w.takes(up, n)
	if !is {
		return api.OK
	}
	return w.c.Hear(b)
}

func (w *byWords) tick() api.Errno {
	told, e := w.c.Tick()
	for _, b := range told {
		w.comes(down, b)
	}
	return e
}

func (w *byWords) do(a Act) (e api.Errno) {
	switch a.Kind {
	case 1:
		return w.tick()
	case 2:
		w.toPlant(a.N)
	case 3:
		return w.toControl(a.N)
	case 4, 5:
		w.takes(a.Kind-4, a.N)
	case 6, 7:
		if l := w.lines[a.Kind-6]; len(l) > 0 {
			b := l[modulo(a.N, len(l))]
			w.comes(a.Kind-6, b[:])
		}
	case 8, 9:
		if len(w.layout.Edges) == 0 {
			return api.OK
		}
		t, _ := map[int]func(int) (api.Tele, api.Errno){8: w.p.Break, 9: w.p.Mend}[a.Kind](1 + modulo(a.N, len(w.layout.Edges)))
		w.comesTele(up, t)
	case 10:
		_, e = w.c.Order(a.Request)
	case 11:
		_, e = w.c.Cancel(a.N)
	case 12:
		if _, none := tele.Decode(a.Data); none != api.OK {
			e = w.c.Hear(a.Data)
		}
	case 13:
		e = w.tape.Arm(a.N)
	case 14:
		w.tape = w.tape.Crash()
		w.c, e = control.Open(w.layout, w.pause, w.tape)
	}
	return e
}

func (w *byWords) somethingIsLeft() bool {
	left := len(w.c.Requests()) > 0
	for tote := range 31 {
		left = left || len(w.c.Path(tote)) > 0
	}
	for dev := range 121 {
		_, _, told := w.c.Told(dev)
		left = left || told
	}
	return left
}

func (w *byWords) settle(n int) (int, api.Errno) {
	if w.c.Dead() {
		return 0, api.ErrDead
	}
	rounds := 0
	for rounds < n && rounds < 10000 && w.somethingIsLeft() {
		if e := w.tick(); e != api.OK {
			return rounds, e
		}
		for len(w.lines[down]) > 0 {
			w.toPlant(0)
		}
		for len(w.lines[up]) > 0 {
			w.toControl(0)
		}
		rounds++
	}
	return rounds, api.OK
}

// double is a field, and the words beside it.
type double struct {
	t    testing.TB
	f    *Field
	w    *byWords
	said []any
}

func newDouble(t testing.TB, l api.Layout, pause int, totes ...[2]int) *double {
	t.Helper()
	f, e := New(l, pause, totes)
	w, we := newWords(l, pause, totes)
	if e != we || (f == nil) != (e != api.OK) {
		t.Fatalf("New of %v, %d, %v: %d, want %d", l, pause, totes, e, we)
	}
	if e != api.OK {
		t.Fatalf("New of %v, %d, %v: %d", l, pause, totes, e)
	}
	d := &double{t: t, f: f, w: w}
	d.same()
	return d
}

// do does an act with both.
func (d *double) do(a Act) api.Errno {
	d.t.Helper()
	d.said = append(d.said, show(a))
	e, want := d.f.Do(a), d.w.do(a)
	if e != want {
		d.t.Fatalf("%v: %d, want %d", d.said, e, want)
	}
	d.same()
	return e
}

// does holds that acts answer OK.
func (d *double) does(acts ...Act) {
	d.t.Helper()
	d.fails(api.OK, acts...)
}

// fails holds that each act answers e.
func (d *double) fails(want api.Errno, acts ...Act) {
	d.t.Helper()
	for _, a := range acts {
		if e := d.do(a); e != want {
			d.t.Fatalf("%v: %d, want %d", d.said, e, want)
		}
	}
}

// idle holds that each act answers e, and changes nothing.
func (d *double) idle(want api.Errno, acts ...Act) {
	d.t.Helper()
	for _, a := range acts {
		was, size := lookAt(d.f), d.f.tape.Size()
		d.fails(want, a)
		if now := lookAt(d.f); now != was || d.f.tape.Size() != size {
			d.t.Fatalf("%v: %s, was %s", d.said, now, was)
		}
	}
}

func (d *double) settle(n int) (int, api.Errno) {
	d.t.Helper()
	d.said = append(d.said, fmt.Sprint("Settle ", n))
	rounds, e := d.f.Settle(n)
	if want, we := d.w.settle(n); rounds != want || e != we {
		d.t.Fatalf("%v: %d, %d, want %d, %d", d.said, rounds, e, want, we)
	}
	d.same()
	return rounds, e
}

// settles holds how many rounds there are, and the error.
func (d *double) settles(n, rounds int, e api.Errno) {
	d.t.Helper()
	if r, re := d.settle(n); r != rounds || re != e {
		d.t.Fatalf("%v: %d, %d, want %d, %d", d.said, r, re, rounds, e)
	}
}

// same holds that the field tells what the words say, asked for numbers that are no tote, device or station, too.
func (d *double) same() {
	f, w := d.f, d.w
	is := func(what string, at int, yes bool) {
		if !yes {
			d.t.Fatalf("behind %v: another %s(%d): %s", d.said, what, at, lookAt(f))
		}
	}
	for tote := -1; tote <= 31; tote++ {
		is("Mirror", tote, f.Mirror(tote) == w.c.Where(tote))
		is("Real", tote, f.Real(tote) == w.p.Where(tote))
		is("Path", tote, slices.Equal(f.Path(tote), w.c.Path(tote)))
	}
	for dev := -1; dev <= len(w.layout.Edges)+1; dev++ {
		tote, seq, told := f.Told(dev)
		wantTote, wantSeq, want := w.c.Told(dev)
		is("Told", dev, tote == wantTote && seq == wantSeq && told == want)
	}
	for node := -1; node <= len(w.layout.Nodes); node++ {
		is("Served", node, slices.Equal(f.Served(node), w.c.Served(node)))
	}
	for _, id := range ids() {
		is("State", id, f.State(id) == w.c.State(id))
	}
	is("Requests", 0, slices.Equal(f.Requests(), w.c.Requests()))
	is("Moves", 0, f.Moves() == w.p.Moves())
	is("Dead", 0, f.Dead() == w.c.Dead())
	is("Down", 0, slices.Equal(f.control.Down(), w.c.Down()))
	is("tape", 0, f.tape.Size() == w.tape.Size())
	a, b := f.Lines()
	is("Lines", 0, a == len(w.lines[down]) && b == len(w.lines[up]))
	alike := func(b []byte, want [12]byte) bool { return bytes.Equal(b, want[:]) }
	is("line down", 0, slices.EqualFunc(f.down, w.lines[down], alike))
	is("line up", 0, slices.EqualFunc(f.up, w.lines[up], alike))
}

// lines holds how many telegrams are in them.
func (d *double) lines(down, up int) {
	d.t.Helper()
	if a, b := d.f.Lines(); a != down || b != up {
		d.t.Fatalf("behind %v: %d telegrams down, %d up, want %d and %d", d.said, a, b, down, up)
	}
}

// at holds where the mirror has a tote, and where it really is.
func (d *double) at(tote, mirror, real int) {
	d.t.Helper()
	if a, b := d.f.Mirror(tote), d.f.Real(tote); a != mirror || b != real {
		d.t.Fatalf("behind %v: the tote %d is at %d, really %d, want %d and %d", d.said, tote, a, b, mirror, real)
	}
}

func (d *double) moves(want int) {
	d.t.Helper()
	if got := d.f.Moves(); got != want {
		d.t.Fatalf("behind %v: %d moves, want %d", d.said, got, want)
	}
}

func (d *double) told(dev, tote, seq int) {
	d.t.Helper()
	if a, b, told := d.f.Told(dev); !told || a != tote || b != seq {
		d.t.Fatalf("behind %v: the device %d was told %d, %d, %v, want %d, %d", d.said, dev, a, b, told, tote, seq)
	}
}

func (d *double) states(id, want int) {
	d.t.Helper()
	if got := d.f.State(id); got != want {
		d.t.Fatalf("behind %v: the state of %d is %d, want %d", d.said, id, got, want)
	}
}

func (d *double) served(station int, want ...int) {
	d.t.Helper()
	if got := d.f.Served(station); !slices.Equal(got, want) {
		d.t.Fatalf("behind %v: served at %d: %v, want %v", d.said, station, got, want)
	}
}

func (d *double) path(tote int, want ...int) {
	d.t.Helper()
	if got := d.f.Path(tote); !slices.Equal(got, want) {
		d.t.Fatalf("behind %v: the path of %d is %v, want %v", d.said, tote, got, want)
	}
}

// lookAt is all that a field tells, and what is in its lines.
func lookAt(f *Field) string {
	s := keptBy(f)
	for tote := -1; tote <= 31; tote++ {
		if path := f.Path(tote); len(path) > 0 {
			s += fmt.Sprint(" job ", tote, " ", path)
		}
		if node := f.Real(tote); node != -1 {
			s += fmt.Sprint(" real ", tote, " ", node)
		}
	}
	a, b := f.Lines()
	return s + fmt.Sprint(" moves ", f.Moves(), " lines ", a, " ", b, " ", f.down, f.up, " dead ", f.Dead())
}

// keptBy is what mirror and book tell.
func keptBy(f *Field) string {
	var s strings.Builder
	for tote := -1; tote <= 31; tote++ {
		if node := f.Mirror(tote); node != -1 {
			fmt.Fprint(&s, " tote ", tote, " at ", node)
		}
	}
	for dev := -1; dev <= 121; dev++ {
		if tote, seq, told := f.Told(dev); told || tote != 0 || seq != 0 {
			fmt.Fprint(&s, " device ", dev, " told ", tote, " ", seq)
		}
	}
	fmt.Fprint(&s, " down ", f.control.Down(), " open ", f.Requests())
	for node := -1; node <= 40; node++ {
		if l := f.Served(node); len(l) > 0 {
			fmt.Fprint(&s, " served at ", node, " ", l)
		}
	}
	for _, id := range ids() {
		if state := f.State(id); state != 0 {
			fmt.Fprint(&s, " ID ", id, " ", state)
		}
	}
	return s.String()
}

// ids are those that are asked for.
func ids() []int {
	l := []int{math.MinInt, 1<<31 - 1, 1 << 31, math.MaxInt}
	for id := -1; id < 40; id++ {
		l = append(l, id)
	}
	return l
}

func show(a Act) string {
	name := fmt.Sprint("act ", a.Kind)
	if a.Kind >= 1 && a.Kind <= 14 {
		name = strings.Fields("Tick Down Up LoseDown LoseUp TwiceDown TwiceUp Break Mend Order Cancel Noise Arm Crash")[a.Kind-1]
	}
	switch a.Kind {
	case Tick, Crash:
		return name
	case Order:
		return fmt.Sprint(name, a.Request)
	case Noise:
		return fmt.Sprintf("%s %x", name, a.Data)
	}
	return fmt.Sprint(name, " ", a.N)
}

// act is one of a kind, with a number if there is one.
func act(kind int, n ...int) Act {
	return Act{Kind: kind, N: append(n, 0)[0]}
}

// acts are of these kinds.
func acts(kinds ...int) []Act {
	var l []Act
	for _, kind := range kinds {
		l = append(l, act(kind))
	}
	return l
}

func many(times int, a Act) []Act { return slices.Repeat([]Act{a}, times) }

func order(id, station, tote int) Act {
	return Act{Kind: Order, Request: api.Request{ID: id, Station: station, Tote: tote}}
}

func noise(b []byte) Act { return Act{Kind: Noise, Data: b} }

func bytesOf(t api.Tele) []byte {
	b, e := tele.Encode(t)
	if e != api.OK {
		panic(fmt.Sprint(t, " is no telegram"))
	}
	return b
}

// store is a layout made of words: nodes by their kind's letter and a number (t a track, s a slot, p a station, g a gate), edges as
// pairs of them: a>b is one edge, a=b are two, one each way, that from a to b first.
func store(nodes string, edges string) api.Layout {
	var l api.Layout
	for _, name := range strings.Fields(nodes) {
		l.Nodes = append(l.Nodes, api.Node{Name: name, Kind: 1 + strings.IndexByte("tspg", name[0])})
	}
	for _, pair := range strings.Fields(edges) {
		a, b, one := strings.Cut(pair, ">")
		if !one {
			a, b, _ = strings.Cut(pair, "=")
		}
		x, y := layout.Find(l, a), layout.Find(l, b)
		l.Edges = append(l.Edges, [2]int{x, y})
		if !one {
			l.Edges = append(l.Edges, [2]int{y, x})
		}
	}
	return l
}

// example is that of the controller's chapter: a track, a slot, a station; the device 1 from the slot, 2 to the station.
func example() api.Layout {
	return store("t0 s0 p0", "s0>t0 t0>p0")
}

// line is a single track between a slot and a station, each way.
func single() api.Layout {
	return store("s0 t0 p0", "s0=t0 t0=p0")
}

// star has a track in the middle (0), three slots (1 to 3) and two stations (4, 5) about it: the device 2n-1 goes from the node n to
// the track, 2n back.
func star() api.Layout {
	return store("t0 s1 s2 s3 p4 p5", "s1=t0 s2=t0 s3=t0 p4=t0 p5=t0")
}

// loop has a ring of six tracks (0 to 5, by the devices 1 to 6), and behind some of them a slot, a station, a gate.
func loop() api.Layout {
	return store("t0 t1 t2 t3 t4 t5 s0 s1 p0 p1 g0",
		"t0>t1 t1>t2 t2>t3 t3>t4 t4>t5 t5>t0 s0>t0 t0>s0 s1>t3 t3>s1 t1>p0 p0>t2 t4>p1 p1>t5 g0>t0")
}

// ladder has two rows of tracks side by side, so that there are ways around, two slots and a station.
func ladder() api.Layout {
	return store("t0 t1 t2 t3 t4 t5 s0 s1 p0", "t0=t1 t1=t2 t3=t4 t4=t5 t0=t3 t1=t4 t2=t5 s0=t0 s1=t3 t2=p0 t5>p0")
}

// apart has three halls of a slot, a track and a station, between which no way leads.
func apart() api.Layout {
	return store("t0 s0 p0 t1 s1 p1 t2 s2 p2", "s0=t0 t0=p0 s1=t1 t1=p1 s2=t2 t2=p2")
}

// wide has 40 nodes and 120 edges.
func wide() api.Layout {
	nodes, edges := "", ""
	for i := range 20 {
		nodes += fmt.Sprint("t", i, " ")
		for _, on := range []int{1, 19, 7, 3} {
			edges += fmt.Sprint("t", i, ">t", (i+on)%20, " ")
		}
	}
	for i := range 20 {
		name := string("sssspsssgspsssspsssp"[i]) + fmt.Sprint(i)
		nodes += name + " "
		edges += fmt.Sprint(name, "=t", i, " ")
	}
	return store(nodes, edges)
}

// layouts are some of all sizes.
func layouts() []api.Layout {
	return []api.Layout{
		example(), single(), star(), loop(), ladder(), apart(), wide(),
		store("t0 t1 s0 s1 p0 p1 g0", "s0=t0 t0=p0 s1=t1 t1=p1 t1>t0 g0>t1"), // from the one half no way leads to the other
		store("p0", ""), store("t0 t1", "t0>t1"),
	}
}
