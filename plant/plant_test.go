package plant

import (
	"fmt"
	"math"
	"math/rand"
	"slices"
	"testing"
	"unsafe"

	"stillage/api"
	"stillage/layout"
)

// byWords is a plant as the chapter's words have it, plain, and apart from the program: maps that have what is there alone.
type byWords struct {
	nodes  int
	edges  [][2]int
	where  map[int]int // tote: node
	broken map[int]bool
	last   map[int][2]int // device: Seq and tote of the last move, if it did one
	moves  int
}

func newWords(l api.Layout) *byWords {
	return &byWords{len(l.Nodes), slices.Clone(l.Edges), map[int]int{}, map[int]bool{}, map[int][2]int{}, 0}
}

func (w *byWords) noDevice(n int) bool { return n < 1 || n > len(w.edges) }

func (w *byWords) at(node int) int {
	for tote, n := range w.where {
		if n == node {
			return tote
		}
	}
	return 0
}

func (w *byWords) put(tote, node int) api.Errno {
	if tote < 1 || tote > 30 || node < 0 || node > w.nodes-1 {
		return api.ErrRange
	}
	if _, stands := w.where[tote]; stands {
		return api.ErrTwice
	}
	if w.at(node) > 0 {
		return api.ErrHeld
	}
	w.where[tote] = node
	return api.OK
}

// isBehind tells whether b is one of the 32767 numbers that come behind a.
func isBehind(a, b int) bool {
	steps := ((b-a)%65536 + 65536) % 65536
	return 0 < steps && steps < 32768
}

func (w *byWords) hear(t api.Tele) (api.Tele, bool) {
	dev, seq, tote := int(t.Dev), int(t.Seq), int(t.A)
	if w.noDevice(dev) || w.broken[dev] {
		return api.Tele{}, false
	}
	last, did := w.last[dev]
	if t.Kind == 6 {
		return api.Tele{Kind: 7, Dev: t.Dev, Seq: t.Seq, A: uint16(last[0]), B: uint16(last[1])}, true
	}
	if t.Kind != 1 {
		return api.Tele{}, false
	}
	answer := api.Tele{Kind: 2, Dev: t.Dev, Seq: t.Seq, A: t.A}
	if did && last == [2]int{seq, tote} {
		return answer, true
	}
	if did && !isBehind(last[0], seq) {
		return api.Tele{}, false
	}
	edge := w.edges[dev-1]
	if node, stands := w.where[tote]; !stands || node != edge[0] {
		answer.Kind, answer.B = 3, 1
		return answer, true
	}
	if w.at(edge[1]) > 0 {
		answer.Kind, answer.B = 3, 2
		return answer, true
	}
	w.where[tote], w.last[dev] = edge[1], [2]int{seq, tote}
	w.moves++
	return answer, true
}

func (w *byWords) fault(dev int) (api.Tele, api.Errno) {
	if w.noDevice(dev) {
		return api.Tele{}, api.ErrRange
	}
	w.broken[dev] = true
	return api.Tele{Kind: 4, Dev: uint16(dev)}, api.OK
}

func (w *byWords) repair(dev int) (api.Tele, api.Errno) {
	if w.noDevice(dev) {
		return api.Tele{}, api.ErrRange
	}
	delete(w.broken, dev)
	return api.Tele{Kind: 5, Dev: uint16(dev)}, api.OK
}

// op is a call of a plant that may change it: its numbers in their order, or the telegram.
type op struct {
	name string
	a, b int
	tele api.Tele
}

func putOp(tote, node int) op   { return op{name: "Put", a: tote, b: node} }
func hearOp(t api.Tele) op      { return op{name: "Hear", tele: t} }
func moveOp(dev, seq, n int) op { return hearOp(tele(api.TMove, dev, seq, n, 0)) }
func askOp(dev, seq int) op     { return hearOp(tele(api.TAsk, dev, seq, 0, 0)) }
func breakOp(dev int) op        { return op{name: "Break", a: dev} }
func mendOp(dev int) op         { return op{name: "Mend", a: dev} }

func tele(kind, dev, seq, a, b int) api.Tele {
	return api.Tele{Kind: uint8(kind), Dev: uint16(dev), Seq: uint16(seq), A: uint16(a), B: uint16(b)}
}

// result is what a call answers; of a Put and of a Hear the parts that they have.
type result struct {
	tele api.Tele
	is   bool
	e    api.Errno
}

func (o op) onPlant(p *Plant) (r result) {
	switch o.name {
	case "Put":
		r.e = p.Put(o.a, o.b)
	case "Hear":
		r.tele, r.is = p.Hear(o.tele)
	case "Break":
		r.tele, r.e = p.Break(o.a)
	case "Mend":
		r.tele, r.e = p.Mend(o.a)
	}
	return r
}

func (o op) onWords(w *byWords) (r result) {
	switch o.name {
	case "Put":
		r.e = w.put(o.a, o.b)
	case "Hear":
		r.tele, r.is = w.hear(o.tele)
	case "Break":
		r.tele, r.e = w.fault(o.a)
	case "Mend":
		r.tele, r.e = w.repair(o.a)
	}
	return r
}

// state is what a device answers to a TAsk.
type state struct {
	tele api.Tele
	is   bool
}

// look is what can be asked of a plant, from numbers that are no tote, node or device to such numbers.
type look struct {
	where  [35]int // of the totes from -2 on
	at     [45]int // of the nodes from -2 on
	works  [125]bool
	states [125]state // of the devices from -2 on
	moves  int
}

func lookAt(p *Plant) look {
	l := look{moves: p.Moves()}
	for i := range l.where {
		l.where[i] = p.Where(i - 2)
	}
	for i := range l.at {
		l.at[i] = p.At(i - 2)
	}
	for i := range l.works {
		l.works[i] = p.Works(i - 2)
		l.states[i].tele, l.states[i].is = p.Hear(tele(api.TAsk, i-2, 3*i, 0, 0))
	}
	return l
}

func (w *byWords) look() look {
	l := look{moves: w.moves}
	for i := range l.where {
		l.where[i] = -1
	}
	for tote, node := range w.where {
		l.where[tote+2], l.at[node+2] = node, tote
	}
	for i := range w.edges {
		if w.broken[i+1] {
			continue
		}
		last := w.last[i+1]
		l.works[i+3] = true
		l.states[i+3] = state{tele(7, i+1, 3*(i+3), last[0], last[1]), true}
	}
	return l
}

// String tells what is there alone.
func (l look) String() string {
	s := fmt.Sprint(l.moves, " moves")
	for i, node := range l.where {
		if node != -1 {
			s += fmt.Sprint(", tote ", i-2, " at ", node)
		}
	}
	for i, tote := range l.at {
		if tote != 0 {
			s += fmt.Sprint(", node ", i-2, ": ", tote)
		}
	}
	for i := range l.works {
		if l.works[i] || l.states[i] != (state{}) {
			s += fmt.Sprint(", device ", i-2, ": ", l.works[i], " ", l.states[i])
		}
	}
	return s
}

// nodes are so many tracks.
func nodes(many int) []api.Node {
	var list []api.Node
	for i := range many {
		list = append(list, api.Node{Name: fmt.Sprint("n", i), Kind: api.NTrack})
	}
	return list
}

// tracks is a layout of so many tracks, with these edges.
func tracks(many int, edges ...[2]int) api.Layout {
	return api.Layout{Nodes: nodes(many), Edges: edges}
}

func ring(many int) api.Layout {
	l := tracks(many)
	for i := range many {
		l.Edges = append(l.Edges, [2]int{i, (i + 1) % many})
	}
	return l
}

// wide has 40 nodes and 120 edges.
func wide() api.Layout {
	l := tracks(40)
	for i := range 40 {
		for _, on := range []int{1, 39, 7} {
			l.Edges = append(l.Edges, [2]int{i, (i + on) % 40})
		}
	}
	return l
}

// fork has two devices with the same beginning (1 and 2), two with the same end (2 and 3), and one each way between two nodes
// (1 and 4).
func fork() api.Layout {
	return tracks(3, [2]int{0, 1}, [2]int{0, 2}, [2]int{1, 2}, [2]int{1, 0})
}

// kinds has a node of each kind.
func kinds() api.Layout {
	l, _, _ := layout.Parse("node a track 0\nnode b track 7\nnode s slot 1\nnode p station 2\nnode g gate 3\n" +
		"edge g a\nedge a b\nedge b a\nedge a s\nedge s b\nedge b p\nedge p a\n")
	return l
}

// one has one device.
func one() api.Layout {
	return tracks(2, [2]int{1, 0})
}

// layouts are some of all sizes.
func layouts() []api.Layout {
	return []api.Layout{tracks(1), tracks(40), one(), ring(2), ring(3), fork(), kinds(), ring(40), wide()}
}

// anySize are numbers of any size.
func anySize() []int {
	return []int{0, -1, 1, -2, 2, 3, 29, 30, 31, 39, 40, 41, 119, 120, 121, 200, 65535, 65536, 65537, 1 << 31, 1 << 32, 1<<32 + 1, -1 << 32, math.MinInt, math.MinInt + 1, math.MaxInt - 1, math.MaxInt}
}

// double has a plant and its plain form side by side, and holds each call of the one against the other.
type double struct {
	t testing.TB
	p *Plant
	w *byWords
}

func newPlant(t testing.TB, l api.Layout) *Plant {
	t.Helper()
	p, e := New(l)
	if e != api.OK || p == nil {
		t.Fatalf("New of %v: %v, %d", l, p, e)
	}
	return p
}

func newDouble(t testing.TB, l api.Layout) *double {
	t.Helper()
	d := &double{t, newPlant(t, l), newWords(l)}
	d.same()
	return d
}

func (d *double) same() {
	d.t.Helper()
	if got, want := lookAt(d.p), d.w.look(); got != want {
		d.t.Fatalf("%v, not %v", got, want)
	}
}

func (d *double) call(o op) result {
	d.t.Helper()
	before := d.w.look()
	got, want := o.onPlant(d.p), o.onWords(d.w)
	if got != want {
		d.t.Fatalf("%v: %v: %v, not %v", before, o, got, want)
	}
	d.same()
	return got
}

// puts wants these totes put, from the node 0 on; no tote is put for a 0.
func (d *double) puts(totes ...int) {
	d.t.Helper()
	for node, tote := range totes {
		if tote == 0 {
			continue
		}
		if r := d.call(putOp(tote, node)); r != (result{}) {
			d.t.Fatalf("Put(%d, %d): %d", tote, node, r.e)
		}
	}
}

// fails wants an error, nothing beside it, and nothing changed.
func (d *double) fails(want api.Errno, ops ...op) {
	d.t.Helper()
	for _, o := range ops {
		d.changesNothing(o, result{e: want})
	}
}

// silent wants no answer, and nothing changed.
func (d *double) silent(ops ...op) {
	d.t.Helper()
	for _, o := range ops {
		d.changesNothing(o, result{})
	}
}

func (d *double) changesNothing(o op, want result) {
	d.t.Helper()
	before := lookAt(d.p)
	if r := d.call(o); r != want {
		d.t.Fatalf("%v: %v: %v, not %v", before, o, r, want)
	}
	if after := lookAt(d.p); after != before {
		d.t.Fatalf("%v: %v became %v", o, before, after)
	}
}

// moves wants a move to be done, over the device's edge.
func (d *double) moves(dev, seq, tote int) {
	d.t.Helper()
	many, edge := d.p.Moves(), d.w.edges[dev-1]
	r := d.call(moveOp(dev, seq, tote))
	if r != (result{tele: tele(api.TDone, dev, seq, tote, 0), is: true}) {
		d.t.Fatalf("device %d, Seq %d, tote %d: %v", dev, seq, tote, r)
	}
	if d.p.Moves() != many+1 || d.p.Where(tote) != edge[1] || d.p.At(edge[1]) != tote || d.p.At(edge[0]) != 0 {
		d.t.Fatalf("device %d, Seq %d, tote %d: %v", dev, seq, tote, lookAt(d.p))
	}
	d.knows(dev, seq, tote)
}

// done wants that a move is answered as one that was done already, and nothing changed.
func (d *double) done(dev, seq, tote int) {
	d.t.Helper()
	d.changesNothing(moveOp(dev, seq, tote), result{tele: tele(api.TDone, dev, seq, tote, 0), is: true})
}

// refused wants that a move is refused for this reason, and nothing changed.
func (d *double) refused(reason, dev, seq, tote int) {
	d.t.Helper()
	d.changesNothing(moveOp(dev, seq, tote), result{tele: tele(api.TRefused, dev, seq, tote, reason), is: true})
}

// knows wants that a device tells this last move, whatever Seq it is asked with.
func (d *double) knows(dev, seq, tote int) {
	d.t.Helper()
	for _, asked := range []int{0, 1, seq, 32768, 65535} {
		d.changesNothing(askOp(dev, asked), result{tele: tele(api.TState, dev, asked, seq, tote), is: true})
	}
}

// breaks and mends want that devices are out of order, and in order, and tell it.
func (d *double) breaks(devices ...int) {
	d.t.Helper()
	for _, dev := range devices {
		if r := d.call(breakOp(dev)); r != (result{tele: api.Tele{Kind: api.TFault, Dev: uint16(dev)}}) || d.p.Works(dev) {
			d.t.Fatalf("Break(%d): %v, Works %v", dev, r, d.p.Works(dev))
		}
	}
}

func (d *double) mends(devices ...int) {
	d.t.Helper()
	for _, dev := range devices {
		if r := d.call(mendOp(dev)); r != (result{tele: api.Tele{Kind: api.TRepair, Dev: uint16(dev)}}) || !d.p.Works(dev) {
			d.t.Fatalf("Mend(%d): %v, Works %v", dev, r, d.p.Works(dev))
		}
	}
}

func TestP20_1_Example(t *testing.T) {
	d := newDouble(t, ring(3))
	d.puts(5)
	d.moves(1, 9, 5)
	d.done(1, 9, 5)
	d.silent(moveOp(1, 8, 5))
	d.refused(1, 1, 10, 5)
	if d.p.Moves() != 1 || d.p.Where(5) != 1 {
		t.Errorf("%v", lookAt(d.p))
	}
}

// noLayouts are some that are none.
func noLayouts() []api.Layout {
	named := func(names ...string) api.Layout {
		l := tracks(len(names))
		for i, name := range names {
			l.Nodes[i].Name = name
		}
		return l
	}
	of := func(kind, zone int) api.Layout {
		l := ring(3)
		l.Nodes[2].Kind, l.Nodes[2].Zone = kind, zone
		return l
	}
	slots := tracks(3, [2]int{0, 1}, [2]int{1, 2})
	slots.Nodes[1].Kind, slots.Nodes[2].Kind = api.NSlot, api.NStation
	many := wide()
	many.Edges = append(many.Edges, [2]int{0, 20})
	return []api.Layout{
		{}, {Edges: [][2]int{{0, 1}}}, tracks(0), tracks(41), ring(41), many, slots,
		named(""), named("a", "a"), named("1a"), named("A"), named("a b"), named("abcdefghi"),
		of(0, 0), of(5, 0), of(-1, 0), of(1, -1), of(1, 8),
		tracks(3, [2]int{0, 3}), tracks(3, [2]int{-1, 0}), tracks(3, [2]int{3, 0}), tracks(3, [2]int{0, -1}), tracks(3, [2]int{1, 1}),
		tracks(3, [2]int{0, 1}, [2]int{1, 2}, [2]int{0, 1}), tracks(1, [2]int{0, 0}),
		tracks(3, [2]int{math.MinInt, math.MaxInt}),
	}
}

func TestP20_1_NewOfWhatIsNoLayout(t *testing.T) {
	for _, l := range noLayouts() {
		if p, e := New(l); p != nil || e != api.ErrPart {
			t.Errorf("New of %v: %v, %d", l, p, e)
		}
	}
}

// TestP20_1_NewHasNone: no tote, and all devices in order, none of which did a move.
func TestP20_1_NewHasNone(t *testing.T) {
	for _, l := range layouts() {
		d := newDouble(t, l)
		for _, n := range anySize() {
			if d.p.Where(n) != -1 || d.p.At(n) != 0 || d.p.Works(n) != (n >= 1 && n <= len(l.Edges)) {
				t.Errorf("%d: Where %d, At %d, Works %v", n, d.p.Where(n), d.p.At(n), d.p.Works(n))
			}
		}
		for dev := 1; dev <= len(l.Edges); dev++ {
			d.knows(dev, 0, 0)
			d.refused(1, dev, 0, 1)
			d.refused(1, dev, 65535, 30)
		}
		if d.p.Moves() != 0 {
			t.Errorf("Moves: %d", d.p.Moves())
		}
	}
}

// TestP20_1_AskingForWhatIsNot: when nodes are full, moves were done, and devices are out of order.
func TestP20_1_AskingForWhatIsNot(t *testing.T) {
	for _, l := range layouts() {
		d := newDouble(t, l)
		for tote := 1; tote <= min(29, len(l.Nodes)); tote += 2 {
			d.call(putOp(tote, tote-1))
		}
		for dev := 1; dev <= len(l.Edges); dev++ {
			d.call(moveOp(dev, dev, d.p.At(l.Edges[dev-1][0])))
			if dev%3 == 0 {
				d.breaks(dev)
			}
		}
		for _, n := range anySize() {
			if (n < 1 || n > 30 || n%2 == 0) && d.p.Where(n) != -1 {
				t.Errorf("Where(%d): %d", n, d.p.Where(n))
			}
			if (n < 0 || n >= len(l.Nodes)) && d.p.At(n) != 0 {
				t.Errorf("At(%d): %d", n, d.p.At(n))
			}
			if (n < 1 || n > len(l.Edges) || n%3 == 0) && d.p.Works(n) {
				t.Errorf("Works(%d)", n)
			}
		}
	}
}

// TestP20_1_PutOutside: ahead of the other errors, too.
func TestP20_1_PutOutside(t *testing.T) {
	for _, l := range layouts() {
		d := newDouble(t, l)
		all := func() {
			for _, n := range []int{0, -1, -2, 31, 32, 1 << 32, 1<<32 + 1, math.MinInt, math.MaxInt} {
				d.fails(api.ErrRange, putOp(n, 0), putOp(n, len(l.Nodes)-1), putOp(n, -1), putOp(n, len(l.Nodes)))
			}
			for _, n := range []int{-1, -2, len(l.Nodes), len(l.Nodes) + 1, 40, 41, 1 << 32, math.MinInt, math.MaxInt} {
				d.fails(api.ErrRange, putOp(1, n), putOp(30, n), putOp(0, n), putOp(31, n))
			}
		}
		all()
		d.puts(1)
		all()
	}
}

func TestP20_1_PutTheFirstAndTheLast(t *testing.T) {
	for _, l := range layouts() {
		for _, tote := range []int{1, 2, 29, 30} {
			for _, node := range []int{0, len(l.Nodes) - 1} {
				d := newDouble(t, l)
				if r := d.call(putOp(tote, node)); r != (result{}) || d.p.Where(tote) != node || d.p.At(node) != tote {
					t.Errorf("Put(%d, %d): %d, %v", tote, node, r.e, lookAt(d.p))
				}
			}
		}
	}
}

// TestP20_1_PutOfAToteThatStands: at its own node, at a free one, and ahead of ErrHeld; and behind a move, too.
func TestP20_1_PutOfAToteThatStands(t *testing.T) {
	d := newDouble(t, ring(5))
	d.puts(1, 0, 30)
	all := func() {
		d.t.Helper()
		for node := range 5 {
			d.fails(api.ErrTwice, putOp(1, node), putOp(30, node))
		}
	}
	all()
	d.moves(1, 4, 1)
	all()
	d.moves(3, 0, 30)
	all()
}

func TestP20_1_PutWhereOneStands(t *testing.T) {
	d := newDouble(t, ring(4))
	d.puts(1)
	d.fails(api.ErrHeld, putOp(2, 0), putOp(30, 0))
	d.moves(1, 7, 1)
	d.fails(api.ErrHeld, putOp(2, 1), putOp(30, 1))
	// What was left is free again.
	d.puts(2)
	d.fails(api.ErrHeld, putOp(3, 0), putOp(3, 1))
	d.call(putOp(3, 3))
	d.fails(api.ErrHeld, putOp(4, 0), putOp(4, 1), putOp(4, 3))
}

// TestP20_1_AllOfThem: as many totes and devices as there may be; each tote goes on by one.
func TestP20_1_AllOfThem(t *testing.T) {
	d := newDouble(t, wide())
	for tote := 1; tote <= 30; tote++ {
		d.call(putOp(tote, tote-1))
	}
	// Each edge to the next node is the first of three.
	for tote := 29; tote >= 1; tote-- {
		d.refused(2, 3*tote-2, tote, tote)
	}
	for tote := 30; tote >= 1; tote-- {
		d.moves(3*tote-2, tote, tote)
	}
	d.puts(0)
	for dev := 1; dev <= 120; dev++ {
		d.breaks(dev)
		d.silent(askOp(dev, 1), moveOp(dev, 100, 30))
	}
	for dev := 1; dev <= 120; dev++ {
		d.mends(dev)
	}
	for tote := 1; tote <= 30; tote++ {
		d.knows(3*tote-2, tote, tote)
		d.knows(3*tote-1, 0, 0)
		d.done(3*tote-2, tote, tote)
	}
	if d.p.Moves() != 30 {
		t.Errorf("Moves: %d", d.p.Moves())
	}
}

// seqs are some all around.
func seqs() []int {
	return []int{0, 1, 2, 9, 255, 256, 32766, 32767, 32768, 32769, 65534, 65535}
}

// TestP20_1_TheFirstMove: any Seq is good, that of a device that knows 0 and 0, too.
func TestP20_1_TheFirstMove(t *testing.T) {
	for _, l := range layouts() {
		if len(l.Edges) == 0 {
			continue
		}
		for _, dev := range []int{1, len(l.Edges)} {
			for _, seq := range seqs() {
				for _, tote := range []int{1, 30} {
					d := newDouble(t, l)
					d.knows(dev, 0, 0)
					d.refused(1, dev, seq, tote)
					d.call(putOp(tote, l.Edges[dev-1][0]))
					d.knows(dev, 0, 0)
					d.moves(dev, seq, tote)
					d.done(dev, seq, tote)
				}
			}
		}
	}
}

// TestP20_1_WhichSeqIsBehind: behind a move with each of some Seqs, all other ones.
func TestP20_1_WhichSeqIsBehind(t *testing.T) {
	for _, last := range seqs() {
		p := newPlant(t, ring(3))
		p.Put(5, 0)
		if a, is := p.Hear(tele(api.TMove, 1, last, 5, 0)); !is || a.Kind != api.TDone {
			t.Fatalf("Seq %d: %v, %v", last, a, is)
		}
		many := 0
		for seq := range 65536 {
			// The tote isn't at the beginning any more, so what is behind is refused.
			want := state{}
			if seq == last {
				want = state{tele(api.TDone, 1, seq, 5, 0), true}
			} else if isBehind(last, seq) {
				want = state{tele(api.TRefused, 1, seq, 5, 1), true}
				many++
			}
			if a, is := p.Hear(tele(api.TMove, 1, seq, 5, 0)); (state{a, is}) != want {
				t.Fatalf("Seq %d behind %d: %v, %v", seq, last, a, is)
			}
		}
		if many != 32767 || p.Moves() != 1 || p.Where(5) != 1 {
			t.Errorf("behind %d: %d; %d moves", last, many, p.Moves())
		}
	}
}

// again has a plant whose device 1 moved the tote 5 with a Seq, and at whose beginning it stands again.
func again(t *testing.T, seq int) *double {
	t.Helper()
	d := newDouble(t, ring(2))
	d.puts(5)
	d.moves(1, seq, 5)
	d.moves(2, 77, 5)
	return d
}

// TestP20_1_TheNextSeq: the one just behind, the farthest one, and the first one that isn't, where the numbers go round, too.
func TestP20_1_TheNextSeq(t *testing.T) {
	for _, last := range seqs() {
		for _, on := range []int{1, 2, 100, 16384, 32766, 32767} {
			d := again(t, last)
			d.moves(1, (last+on)%65536, 5)
		}
		for _, on := range []int{32768, 32769, 40000, 65534, 65535} {
			d := again(t, last)
			d.silent(moveOp(1, (last+on)%65536, 5))
			d.knows(1, last, 5)
			d.moves(1, (last+1)%65536, 5)
		}
	}
}

// TestP20_1_ItGoesRound: the Seq of a move may come again, when the numbers have gone round.
func TestP20_1_ItGoesRound(t *testing.T) {
	d := again(t, 5)
	for _, seq := range []int{32772, 65535, 4, 5, 6} {
		d.moves(1, seq, 5)
		d.moves(2, 78+d.p.Moves(), 5)
	}
	d.silent(moveOp(1, 5, 5), moveOp(1, 4, 5), moveOp(1, 65535, 5))
	d.done(1, 6, 5)
}

// TestP20_1_ToldAgain: the same Seq and tote, with other moves behind it too, wherever the tote is by then.
func TestP20_1_ToldAgain(t *testing.T) {
	for _, seq := range seqs() {
		d := newDouble(t, ring(3))
		d.puts(5)
		d.moves(1, seq, 5)
		d.done(1, seq, 5)
		d.moves(2, 0, 5)
		d.done(1, seq, 5)
		d.puts(6) // another one stands at the beginning
		d.done(1, seq, 5)
		d.silent(moveOp(1, seq, 6))
		d.moves(1, (seq+1)%65536, 6)
		d.silent(moveOp(1, seq, 5)) // it isn't the last one any more
		d.done(1, (seq+1)%65536, 6)
		d.moves(3, 0, 5) // at the beginning once more, but the end is full
		d.silent(moveOp(1, seq, 5))
		d.done(1, (seq+1)%65536, 6)
		d.done(3, 0, 5)
	}
}

// TestP20_1_ToldAgainWhereItCouldBeDone: the tote stands at the beginning again, the end is free, and nothing moves.
func TestP20_1_ToldAgainWhereItCouldBeDone(t *testing.T) {
	for _, seq := range seqs() {
		d := again(t, seq)
		for range 3 {
			d.done(1, seq, 5)
		}
		d.knows(1, seq, 5)
		if d.p.Where(5) != 0 || d.p.Moves() != 2 {
			t.Errorf("Seq %d: %v", seq, lookAt(d.p))
		}
		d.moves(1, (seq+1)%65536, 5)
	}
}

// TestP20_1_TheSameSeqWithAnotherTote: nothing, whether it could be moved or not.
func TestP20_1_TheSameSeqWithAnotherTote(t *testing.T) {
	for _, seq := range seqs() {
		d := newDouble(t, ring(4))
		d.puts(5)
		d.moves(1, seq, 5)
		d.silent(moveOp(1, seq, 6), moveOp(1, seq, 0), moveOp(1, seq, 30), moveOp(1, seq, 31), moveOp(1, seq, 65535))
		d.moves(2, seq, 5)
		d.puts(6)
		d.silent(moveOp(1, seq, 6))
		d.knows(1, seq, 5)
		d.moves(1, (seq+1)%65536, 6)
	}
}

// TestP20_1_TheSameSeqOfAnotherDevice: each device has Seqs of its own.
func TestP20_1_TheSameSeqOfAnotherDevice(t *testing.T) {
	for _, seq := range seqs() {
		d := newDouble(t, ring(3))
		d.puts(5)
		for dev := 1; dev <= 3; dev++ {
			d.moves(dev, seq, 5)
		}
		for dev := 1; dev <= 3; dev++ {
			d.knows(dev, seq, 5)
			d.done(dev, seq, 5)
		}
	}
}

// TestP20_1_TheReasons: 1 comes ahead of 2; by a device that did a move, too.
func TestP20_1_TheReasons(t *testing.T) {
	for _, did := range []bool{false, true} {
		d := newDouble(t, ring(5))
		if did {
			d.puts(9)
			d.moves(1, 3, 9)
			d.moves(2, 3, 9)
			d.moves(3, 3, 9)
		}
		d.refused(1, 1, 10, 5) // it stands nowhere
		d.puts(0, 6)
		d.refused(1, 1, 10, 5) // and one stands at the end
		d.refused(1, 1, 10, 6) // itself at the end
		d.puts(7)
		d.refused(1, 1, 10, 5) // and one at the beginning
		d.refused(1, 1, 10, 6)
		d.puts(0, 0, 5)
		d.refused(1, 1, 10, 5) // it stands at another node
		d.refused(2, 1, 10, 7)
		d.refused(2, 2, 10, 6)
		d.refused(1, 2, 10, 7)
		if did {
			d.knows(1, 3, 9)
		} else {
			d.knows(1, 0, 0)
		}
		d.call(moveOp(3, 10, 5)) // where the tote 9 stands, if it does
		d.call(moveOp(2, 10, 6))
		d.call(moveOp(1, 10, 7))
		if !did {
			d.knows(1, 10, 7)
		}
	}
}

// TestP20_1_WhatIsRefusedIsNotTheLast: neither its Seq nor its tote is known, and an earlier Seq is good still.
func TestP20_1_WhatIsRefusedIsNotTheLast(t *testing.T) {
	d := newDouble(t, ring(3))
	d.puts(5, 6)
	d.refused(2, 1, 20000, 5)
	d.refused(1, 1, 30000, 6)
	d.knows(1, 0, 0)
	d.refused(2, 1, 20000, 5) // told again, it is refused again
	d.moves(2, 0, 6)
	d.moves(1, 100, 5)
	d.refused(1, 1, 20000, 5)
	d.knows(1, 100, 5)
	d.done(1, 100, 5)
	d.moves(3, 0, 6)
	d.refused(2, 1, 200, 6)
	d.moves(2, 1, 5)
	d.moves(1, 101, 6)
}

// TestP20_1_AMoveOfWhatIsNoTote: it stands nowhere, so it isn't at the beginning, though that is empty.
func TestP20_1_AMoveOfWhatIsNoTote(t *testing.T) {
	for _, l := range layouts() {
		if len(l.Edges) == 0 {
			continue
		}
		d := newDouble(t, l)
		all := func(dev, seq int) {
			d.t.Helper()
			for _, n := range []int{0, 31, 32, 255, 256, 257, 261, 65535} {
				d.refused(1, dev, seq, n)
			}
		}
		all(1, 0)
		all(len(l.Edges), 1)
		d.call(putOp(1, l.Edges[0][0]))
		all(1, 0)
		d.moves(1, 0, 1)
		all(1, 1)
		d.silent(moveOp(1, 0, 0), moveOp(1, 65535, 0), moveOp(1, 0, 31), moveOp(1, 32768, 65535))
	}
}

// TestP20_1_FieldsThatAreNotLookedAt: B of a TMove, A and B of a TAsk.
func TestP20_1_FieldsThatAreNotLookedAt(t *testing.T) {
	for _, n := range []int{1, 2, 3, 5, 256, 65535} {
		d := newDouble(t, ring(3))
		d.puts(5)
		state := func(seq, tote int) {
			d.t.Helper()
			for _, ask := range []api.Tele{tele(api.TAsk, 1, 8, n, 0), tele(api.TAsk, 1, 8, 0, n), tele(api.TAsk, 1, 8, n, n)} {
				d.changesNothing(hearOp(ask), result{tele: tele(api.TState, 1, 8, seq, tote), is: true})
			}
		}
		state(0, 0)
		d.changesNothing(hearOp(tele(api.TMove, 2, 4, 5, n)), result{tele: tele(api.TRefused, 2, 4, 5, 1), is: true})
		if r := d.call(hearOp(tele(api.TMove, 1, 9, 5, n))); r != (result{tele: tele(api.TDone, 1, 9, 5, 0), is: true}) || d.p.Where(5) != 1 {
			t.Errorf("B %d: %v, %v", n, r, lookAt(d.p))
		}
		d.changesNothing(hearOp(tele(api.TMove, 1, 9, 5, n+1)), result{tele: tele(api.TDone, 1, 9, 5, 0), is: true})
		state(9, 5)
	}
}

// TestP20_1_OtherKinds: all of them, of every device, with the numbers of a move that could be done.
func TestP20_1_OtherKinds(t *testing.T) {
	for _, l := range []api.Layout{one(), ring(3), kinds()} {
		for _, did := range []bool{false, true} {
			d := newDouble(t, l)
			d.call(putOp(5, l.Edges[0][0]))
			if did {
				d.moves(1, 3, 5)
			}
			for kind := range 256 {
				if kind == api.TMove || kind == api.TAsk {
					continue
				}
				for dev := range len(l.Edges) + 2 {
					for _, n := range []int{0, 5, 65535} {
						d.silent(hearOp(tele(kind, dev, 9, n, 0)), hearOp(tele(kind, dev, n, 5, n)), hearOp(tele(kind, dev, 3, 5, 0)))
					}
				}
			}
		}
	}
}

// TestP20_1_NoDevice: whatever the telegram is.
func TestP20_1_NoDevice(t *testing.T) {
	for _, l := range layouts() {
		d := newDouble(t, l)
		d.puts(5)
		for _, dev := range []int{0, len(l.Edges) + 1, len(l.Edges) + 2, 121, 200, 201, 256, 257, 32768, 32769, 65534, 65535} {
			for kind := range 9 {
				for _, n := range []int{0, 1, 5, 65535} {
					d.silent(hearOp(tele(kind, dev, n, 5, 0)), hearOp(tele(kind, dev, 0, n, n)), hearOp(tele(kind, dev, 9, n, 0)))
				}
			}
		}
		for _, dev := range []int{0, -1, len(l.Edges) + 1, len(l.Edges) + 2, 121, 201, 65536, 65537, 1 << 32, 1<<32 + 1, math.MinInt, math.MaxInt} {
			d.fails(api.ErrRange, breakOp(dev), mendOp(dev))
		}
	}
}

// TestP20_1_OutOfOrder: it answers nothing, does nothing, and knows its last move as before.
func TestP20_1_OutOfOrder(t *testing.T) {
	for _, l := range []api.Layout{one(), ring(3), fork(), wide()} {
		for _, dev := range []int{1, len(l.Edges)} {
			d, edge := newDouble(t, l), l.Edges[dev-1]
			all := func(seq int) {
				d.t.Helper()
				for kind := range 9 {
					for _, n := range []int{0, 5, 6, 31} {
						d.silent(hearOp(tele(kind, dev, seq, n, 0)), hearOp(tele(kind, dev, seq+1, n, 0)), hearOp(tele(kind, dev, seq-1, n, 0)))
					}
				}
			}
			d.breaks(dev)
			all(9)
			d.call(putOp(5, edge[0]))
			all(9)
			d.breaks(dev) // once more
			all(9)
			d.mends(dev)
			d.knows(dev, 0, 0)
			d.moves(dev, 9, 5)
			d.breaks(dev)
			all(9)
			d.call(putOp(6, edge[0]))
			all(9)
			d.mends(dev, dev)
			d.knows(dev, 9, 5)
			d.done(dev, 9, 5)
			d.silent(moveOp(dev, 8, 6), moveOp(dev, 9, 6))
			d.refused(2, dev, 10, 6)
			d.breaks(dev, dev)
			d.mends(dev)
			d.knows(dev, 9, 5)
		}
	}
}

// TestP20_1_TheOthersStayInOrder: just the device that is named breaks, and is mended.
func TestP20_1_TheOthersStayInOrder(t *testing.T) {
	d := newDouble(t, ring(3))
	d.mends(1, 2, 3)
	d.breaks(2)
	if !d.p.Works(1) || d.p.Works(2) || !d.p.Works(3) {
		t.Errorf("%v", lookAt(d.p))
	}
	d.puts(5)
	d.moves(1, 1, 5)
	d.silent(moveOp(2, 1, 5))
	d.breaks(3)
	d.mends(2)
	if !d.p.Works(1) || !d.p.Works(2) || d.p.Works(3) {
		t.Errorf("%v", lookAt(d.p))
	}
	d.moves(2, 1, 5)
	d.silent(moveOp(3, 1, 5))
	d.mends(3)
	d.moves(3, 1, 5)
}

// everyList calls each list of so many calls.
func everyList(t *testing.T, l api.Layout, ops, ahead []op, length int) {
	t.Helper()
	if length == 0 {
		d := newDouble(t, l)
		for _, o := range ahead {
			d.call(o)
		}
		return
	}
	for _, o := range ops {
		everyList(t, l, ops, append(ahead[:len(ahead):len(ahead)], o), length-1)
	}
}

func TestP20_1_EveryShortListOfCalls(t *testing.T) {
	everyList(t, fork(), []op{putOp(1, 0), putOp(2, 1), moveOp(1, 0, 1), moveOp(2, 1, 1), moveOp(3, 1, 2), moveOp(4, 65535, 1), breakOp(1), mendOp(1), askOp(1, 7)}, nil, 4)
	everyList(t, ring(2), []op{putOp(1, 0), moveOp(1, 0, 1), moveOp(1, 32767, 1), moveOp(1, 32768, 1), moveOp(2, 0, 1), moveOp(2, 1, 1)}, nil, 5)
}

// everyOp are all calls with numbers of a layout, two totes and some Seqs, and one outside each.
func everyOp(l api.Layout) []op {
	var list []op
	for tote := range 3 {
		for node := range len(l.Nodes) + 1 {
			list = append(list, putOp(tote, node))
		}
		for dev := range len(l.Edges) + 2 {
			list = append(list, moveOp(dev, 0, tote), moveOp(dev, 1, tote), moveOp(dev, 32768, tote), moveOp(dev, 65535, tote))
		}
	}
	for dev := range len(l.Edges) + 2 {
		list = append(list, breakOp(dev), mendOp(dev), askOp(dev, 5), hearOp(tele(api.TDone, dev, 1, 1, 0)))
	}
	return list
}

// after has a plant and its plain form behind these calls.
func after(t *testing.T, l api.Layout, calls []op) (*Plant, *byWords) {
	t.Helper()
	p, w := newPlant(t, l), newWords(l)
	for _, o := range calls {
		o.onPlant(p)
		o.onWords(w)
	}
	return p, w
}

// all tells all that a plant has, what a device that is out of order knows, too; but not how many moves it did.
func (w *byWords) all() string {
	return fmt.Sprint(w.where, w.broken, w.last)
}

// everyCall makes each call behind these ones, and tells which of them change something.
func everyCall(t *testing.T, l api.Layout, way []op) []op {
	t.Helper()
	var change []op
	p, w := after(t, l, way)
	before := w.all()
	for _, o := range everyOp(l) {
		was := lookAt(p)
		got, want := o.onPlant(p), o.onWords(w)
		now := lookAt(p)
		if got != want || now != w.look() {
			t.Fatalf("%v: %v: %v, %v, not %v, %v", was, o, got, now, want, w.look())
		}
		if w.all() == before {
			continue
		}
		change = append(change, o)
		p, w = after(t, l, way)
	}
	return change
}

// TestP20_1_EveryCallInEveryState: all states of small plants that can be had by calls, and all calls in each.
func TestP20_1_EveryCallInEveryState(t *testing.T) {
	for _, l := range []api.Layout{tracks(1), one(), ring(2), tracks(3, [2]int{0, 1}, [2]int{0, 2}), tracks(3, [2]int{0, 2}, [2]int{1, 2})} {
		seen := map[string]bool{}
		ways := [][]op{nil}
		for len(ways) > 0 {
			way := ways[0]
			ways = ways[1:]
			_, w := after(t, l, way)
			if seen[w.all()] {
				continue
			}
			seen[w.all()] = true
			for _, o := range everyCall(t, l, way) {
				ways = append(ways, append(way[:len(way):len(way)], o))
			}
		}
		if many := len(seen); many < 3 || len(l.Edges) == 2 && many < 200 {
			t.Errorf("%v: %d states", l.Edges, many)
		}
	}
}

// chanceSeq is a Seq by chance, now near the last one of a device, now anywhere.
func chanceSeq(rnd *rand.Rand, last int) int {
	steps := []int{0, 1, 1, 1, 2, 3, 32767, 32768, -1, -2, 1 + rnd.Intn(3000), 1 + rnd.Intn(3000), rnd.Intn(65536)}
	return (last + steps[rnd.Intn(len(steps))] + 65536) % 65536
}

// chanceMove is a TMove by chance: now one that can be done, now one that was done, now one that may not.
func chanceMove(rnd *rand.Rand, w *byWords) op {
	dev, tote := 1+rnd.Intn(max(1, len(w.edges))), 1+rnd.Intn(30)
	last, did := w.last[dev]
	seq := chanceSeq(rnd, last[0])
	if len(w.edges) > 0 && rnd.Intn(4) > 0 {
		if at := w.at(w.edges[dev-1][0]); at > 0 {
			tote = at
		}
	}
	if did && rnd.Intn(5) == 0 {
		tote = last[1]
	}
	switch rnd.Intn(30) {
	case 0:
		tote = []int{0, 31, 256, 65535}[rnd.Intn(4)]
	case 1:
		dev = []int{0, len(w.edges) + 1, 201, 65535}[rnd.Intn(4)]
	case 2:
		return hearOp(tele(rnd.Intn(256), dev, seq, tote, 0))
	}
	return moveOp(dev, seq, tote)
}

// chanceOp is a call by chance. Where devices are some nodes stay empty, or nothing would move any more.
func chanceOp(rnd *rand.Rand, w *byWords) op {
	tote, node, dev := 1+rnd.Intn(30), rnd.Intn(w.nodes), 1+rnd.Intn(max(1, len(w.edges)))
	for len(w.edges) > 0 && len(w.where) >= w.nodes*3/4 && w.at(node) == 0 {
		node = rnd.Intn(w.nodes)
	}
	switch rnd.Intn(25) {
	case 0:
		tote = []int{0, -1, 31, math.MaxInt, math.MinInt, 1 << 32}[rnd.Intn(6)]
	case 1:
		node = []int{-1, w.nodes, w.nodes + 1, math.MaxInt, math.MinInt, 1 << 32}[rnd.Intn(6)]
	case 2:
		dev = []int{0, -1, len(w.edges) + 1, len(w.edges) + 2, math.MaxInt, math.MinInt, 1<<32 + 1}[rnd.Intn(7)]
	}
	move := chanceMove(rnd, w)
	ops := []op{putOp(tote, node), move, move, move, move, move, move, askOp(dev, rnd.Intn(65536)), breakOp(dev), mendOp(dev), mendOp(dev)}
	return ops[rnd.Intn(len(ops))]
}

// chanceRun calls f with a double and call by call what comes by chance.
func chanceRun(t *testing.T, l api.Layout, calls, seed int, f func(d *double, o op)) {
	t.Helper()
	rnd := rand.New(rand.NewSource(int64(seed)))
	d := newDouble(t, l)
	for range calls {
		f(d, chanceOp(rnd, d.w))
	}
}

func TestP20_1_LongListsOfCalls(t *testing.T) {
	count := map[string]int{}
	for at, l := range layouts() {
		for run := range 2 {
			chanceRun(t, l, 2000, 100*at+run, func(d *double, o op) {
				many := d.p.Moves()
				r := d.call(o)
				count[fmt.Sprint(o.name, " ", o.tele.Kind, " ", int(r.e), " ", r.is, " ", r.tele.Kind, " ", r.tele.B*uint16(r.tele.Kind%7), " ", d.p.Moves()-many)]++
			})
		}
	}
	for _, way := range []string{
		"Put 0 0 false 0 0 0", "Put 0 1 false 0 0 0", "Put 0 2 false 0 0 0", "Put 0 100 false 0 0 0",
		"Hear 1 0 false 0 0 0", "Hear 1 0 true 2 0 1", "Hear 1 0 true 2 0 0", "Hear 1 0 true 3 3 0", "Hear 1 0 true 3 6 0",
		"Hear 6 0 true 7 0 0", "Hear 6 0 false 0 0 0",
		"Break 0 0 false 4 0 0", "Break 0 1 false 0 0 0", "Mend 0 0 false 5 0 0", "Mend 0 1 false 0 0 0",
	} {
		if count[way] < 40 {
			t.Errorf("%s: %d times of %v", way, count[way], count)
		}
	}
}

func TestP20_1_WhatFailsChangesNothing(t *testing.T) {
	for at, l := range layouts() {
		chanceRun(t, l, 1000, 1000+at, func(d *double, o op) {
			before := lookAt(d.p)
			r := d.call(o)
			if after := lookAt(d.p); r.e != api.OK && (after != before || r != (result{e: r.e})) {
				t.Fatalf("%v: %v: %v became %v", o, r, before, after)
			}
		})
	}
}

// census is what is known of a plant by its answers alone: where each tote that was put was, and which Seqs moved one.
type census struct {
	edges [][2]int
	where map[int]int
	done  map[[2]int]int // device, Seq: tote
}

func newCensus(l api.Layout) *census {
	return &census{l.Edges, map[int]int{}, map[[2]int]int{}}
}

// note takes in what a call answered: a Put that stands; and a TMove that is done, if it is the first one with that Seq.
func (c *census) note(t *testing.T, o op, r result) {
	t.Helper()
	if o.name == "Put" && r.e == api.OK {
		c.where[o.a] = o.b
	}
	if o.name != "Hear" || r.tele.Kind != api.TDone {
		return
	}
	if o.tele.Kind != api.TMove || r.tele != tele(api.TDone, int(o.tele.Dev), int(o.tele.Seq), int(o.tele.A), 0) {
		t.Fatalf("%v: %v", o, r)
	}
	key, tote := [2]int{int(o.tele.Dev), int(o.tele.Seq)}, int(o.tele.A)
	if other, again := c.done[key]; again {
		if other != tote {
			t.Fatalf("%v: it moved the tote %d with that Seq", o, other)
		}
		return
	}
	edge := c.edges[o.tele.Dev-1]
	if node, stands := c.where[tote]; !stands || node != edge[0] {
		t.Fatalf("%v: it was at %d, %v", o, node, stands)
	}
	c.done[key], c.where[tote] = tote, edge[1]
}

// check wants all totes where they are by what was answered, one a node, and as many moves as Seqs of TMoves that were done.
func (c *census) check(t *testing.T, p *Plant, o op) {
	t.Helper()
	full := map[int]int{}
	for tote := -1; tote <= 32; tote++ {
		node, stands := c.where[tote]
		if !stands {
			node = -1
		}
		if got := p.Where(tote); got != node {
			t.Fatalf("%v: the tote %d at %d, not %d", o, tote, got, node)
		}
		if other, twice := full[node]; stands && twice {
			t.Fatalf("%v: the totes %d and %d at %d", o, tote, other, node)
		}
		if stands {
			full[node] = tote
		}
	}
	for node := -1; node <= 41; node++ {
		if got := p.At(node); got != full[node] {
			t.Fatalf("%v: At(%d): %d, not %d", o, node, got, full[node])
		}
	}
	if p.Moves() != len(c.done) {
		t.Fatalf("%v: %d moves, not %d", o, p.Moves(), len(c.done))
	}
}

// TestP20_2_JustWhatIsToldMoves: Seqs that don't go round, so that each stands for one move.
func TestP20_2_JustWhatIsToldMoves(t *testing.T) {
	for at, l := range layouts() {
		rnd := rand.New(rand.NewSource(int64(2000 + at)))
		moves := 0
		for range 8 {
			p, w, c := newPlant(t, l), newWords(l), newCensus(l)
			for range 400 {
				o := chanceOp(rnd, w)
				o.tele.Seq = uint16(w.last[int(o.tele.Dev)][0] + rnd.Intn(4))
				if rnd.Intn(10) == 0 {
					o.tele.Seq -= uint16(rnd.Intn(1 + int(o.tele.Seq)))
				}
				c.note(t, o, o.onPlant(p))
				o.onWords(w)
				c.check(t, p, o)
			}
			moves += len(c.done)
		}
		if many := len(l.Edges); many > 1 && moves < 100 || many == 1 && moves < 1 {
			t.Errorf("%v: %d moves", l.Edges, moves)
		}
	}
}

// TestP20_2_WhoeverComes has each call of a small layout made by chance, as it comes.
func TestP20_2_WhoeverComes(t *testing.T) {
	for at, l := range []api.Layout{one(), ring(2), ring(3), fork(), kinds()} {
		rnd := rand.New(rand.NewSource(int64(170 + at)))
		var every []op
		for _, o := range everyOp(l) {
			if o.tele.Seq < 32768 {
				every = append(every, o)
			}
		}
		for range 30 {
			p, c := newPlant(t, l), newCensus(l)
			for range 200 {
				o := every[rnd.Intn(len(every))]
				// Three numbers in the place of two.
				if o.tele.Kind == api.TMove && o.tele.Seq == 1 {
					o.tele.Seq += uint16(rnd.Intn(2))
				}
				c.note(t, o, o.onPlant(p))
				c.check(t, p, o)
			}
		}
	}
}

// TestP20_2_NothingElseMoves: no call but a TMove changes where totes are, or how many moves there were; a Put puts just its own.
func TestP20_2_NothingElseMoves(t *testing.T) {
	for at, l := range layouts() {
		chanceRun(t, l, 1500, 2500+at, func(d *double, o op) {
			before := lookAt(d.p)
			r := d.call(o)
			after := lookAt(d.p)
			if o.name == "Put" && r.e == api.OK {
				before.where[o.a+2], before.at[o.b+2] = o.b, o.a
			}
			moved := after.where != before.where || after.at != before.at || after.moves != before.moves
			if moved && (o.tele.Kind != api.TMove || r.tele.Kind != api.TDone) {
				t.Fatalf("%v: %v: %v became %v", o, r, before, after)
			}
			if moved && (after.moves != before.moves+1 || after.where[o.tele.A+2] != l.Edges[o.tele.Dev-1][1] || before.where[o.tele.A+2] != l.Edges[o.tele.Dev-1][0]) {
				t.Fatalf("%v: %v became %v", o, before, after)
			}
		})
	}
}

// TestP20_3_ToldTwice tells each move that was done again, at once and behind others of other devices.
func TestP20_3_ToldTwice(t *testing.T) {
	for at, l := range layouts() {
		told := 0
		for run := range 12 {
			last := map[int]op{}
			chanceRun(t, l, 100, 3000+20*at+run, func(d *double, o op) {
				many := d.p.Moves()
				r := d.call(o)
				if d.p.Moves() > many {
					last[int(o.tele.Dev)] = o
					d.changesNothing(o, r)
					told++
				}
				for dev, o := range last {
					// Behind any other calls it is the last one of its device still.
					if d.p.Works(dev) {
						d.changesNothing(o, result{tele: tele(api.TDone, dev, int(o.tele.Seq), int(o.tele.A), 0), is: true})
					}
				}
			})
		}
		if told == 0 && len(l.Edges) > 0 {
			t.Errorf("%v: no move", l.Edges)
		}
	}
}

// TestP20_3_AnythingToldTwice: the second time nothing moves, whatever it is; what was done is answered alike.
func TestP20_3_AnythingToldTwice(t *testing.T) {
	for at, l := range layouts() {
		rnd := rand.New(rand.NewSource(int64(3500 + at)))
		d := newDouble(t, l)
		for range 1500 {
			if rnd.Intn(4) == 0 {
				d.call(chanceOp(rnd, d.w))
			}
			o := chanceMove(rnd, d.w)
			d.changesNothing(o, d.call(o))
		}
	}
}

// overlap tells whether two lists share memory, spare room too.
func overlap[A, B any](a []A, b []B) bool {
	if cap(a) == 0 || cap(b) == 0 {
		return false
	}
	var one A
	var other B
	x, y := uintptr(unsafe.Pointer(unsafe.SliceData(a))), uintptr(unsafe.Pointer(unsafe.SliceData(b)))
	return x < y+uintptr(cap(b))*unsafe.Sizeof(other) && y < x+uintptr(cap(a))*unsafe.Sizeof(one)
}

// scribble writes over a list, spare room too.
func scribble[T any](list []T, with T) {
	room := list[:cap(list)]
	for i := range room {
		room[i] = with
	}
}

// roomy is a layout with room behind its lists, in which something stands.
func roomy(l api.Layout) api.Layout {
	n := append(slices.Clone(l.Nodes), api.Node{Name: "x", Kind: 1}, api.Node{Name: "y", Kind: 2})
	e := append(slices.Clone(l.Edges), [2]int{77, 78}, [2]int{79, 80})
	return api.Layout{Nodes: n[:len(l.Nodes)], Edges: e[:len(l.Edges)]}
}

// stays is a check that a layout is as it was when it was handed to this, spare room too.
func stays(t *testing.T, given api.Layout) func() {
	n, e := slices.Clone(given.Nodes[:cap(given.Nodes)]), slices.Clone(given.Edges[:cap(given.Edges)])
	return func() {
		t.Helper()
		if !slices.Equal(given.Nodes[:cap(given.Nodes)], n) || !slices.Equal(given.Edges[:cap(given.Edges)], e) {
			t.Fatalf("the layout became %v", given)
		}
	}
}

func TestP20_4_TheLayoutStays(t *testing.T) {
	for at, l := range layouts() {
		given := roomy(l)
		check := stays(t, given)
		chanceRun(t, given, 700, 4000+at, func(d *double, o op) {
			d.call(o)
			check()
			if overlap(d.p.totes, given.Nodes) || overlap(d.p.totes, given.Edges) || overlap(d.p.devices, given.Nodes) || overlap(d.p.devices, given.Edges) {
				t.Fatal("the plant shares the layout's memory")
			}
		})
	}
	for _, l := range noLayouts() {
		given := roomy(l)
		check := stays(t, given)
		New(given)
		check()
	}
}

// TestP20_4_TheLayoutIsNotKept changes it behind New; the plant answers as before.
func TestP20_4_TheLayoutIsNotKept(t *testing.T) {
	for at, l := range layouts() {
		given := roomy(l)
		d := newDouble(t, given)
		rnd := rand.New(rand.NewSource(int64(5000 + at)))
		scribble(given.Nodes, api.Node{Name: "?", Kind: -1, Zone: 99})
		scribble(given.Edges, [2]int{1000, -1000})
		for range 700 {
			d.call(chanceOp(rnd, d.w))
		}
	}
	l := ring(3)
	d := newDouble(t, l)
	d.puts(5)
	l.Edges[0], l.Edges[1] = [2]int{0, 2}, [2]int{2, 1}
	d.moves(1, 9, 5)
	d.moves(2, 1, 5)
	if d.p.Where(5) != 2 {
		t.Errorf("%v", lookAt(d.p))
	}
}

func TestP7_TwoPlantsShareNothing(t *testing.T) {
	for at, l := range layouts() {
		rnd := rand.New(rand.NewSource(int64(10000 + at)))
		a, b := newDouble(t, l), newDouble(t, l)
		for range 400 {
			a.call(chanceOp(rnd, a.w))
			b.call(chanceOp(rnd, b.w))
			a.same()
		}
	}
}

// TestP7_AskingChangesNothing has two plants, and asks the one alone between the calls.
func TestP7_AskingChangesNothing(t *testing.T) {
	for at, l := range layouts() {
		quiet := newPlant(t, l)
		chanceRun(t, l, 700, 11000+at, func(d *double, o op) {
			d.same()
			if got, want := o.onPlant(quiet), d.call(o); got != want {
				t.Fatalf("%v: %v, and %v where nothing was asked", o, want, got)
			}
		})
	}
}

func TestP6_NoCallPanics(t *testing.T) {
	for _, l := range append(layouts(), noLayouts()...) {
		p, e := New(l)
		if e != api.OK {
			continue
		}
		for _, a := range anySize() {
			for _, b := range anySize() {
				p.Put(a, b)
				for kind := range 256 {
					p.Hear(tele(kind, a, b, a, b))
					p.Hear(tele(kind, b, a, a, 0))
				}
			}
			p.Break(a)
			p.Mend(a)
			p.Where(a)
			p.At(a)
			p.Works(a)
			p.Moves()
		}
	}
}
