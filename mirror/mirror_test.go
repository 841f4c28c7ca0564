package mirror

import (
	"fmt"
	"math"
	"math/rand"
	"slices"
	"testing"
	"unsafe"

	"stillage/api"
	"stillage/layout"
)

// byWords is a mirror as the chapter's words have it, plain, and apart from the program: maps that have what is there alone.
type byWords struct {
	nodes int
	edges [][2]int
	where map[int]int    // tote: node
	told  map[int][2]int // device: tote, Seq
	down  map[int]bool
	last  map[int]int // device: Seq
}

func newWords(l api.Layout) *byWords {
	return &byWords{len(l.Nodes), slices.Clone(l.Edges), map[int]int{}, map[int][2]int{}, map[int]bool{}, map[int]int{}}
}

func (w *byWords) noTote(n int) bool   { return n < 1 || n > 30 }
func (w *byWords) noNode(n int) bool   { return n < 0 || n > w.nodes-1 }
func (w *byWords) noDevice(n int) bool { return n < 1 || n > len(w.edges) }

func (w *byWords) at(node int) int {
	for tote, n := range w.where {
		if n == node {
			return tote
		}
	}
	return 0
}

func (w *byWords) taken(node int) bool {
	if w.at(node) > 0 {
		return true
	}
	for dev := range w.told {
		if w.edges[dev-1][1] == node {
			return true
		}
	}
	return false
}

func (w *byWords) put(tote, node int) api.Errno {
	if w.noTote(tote) || w.noNode(node) {
		return api.ErrRange
	}
	if _, in := w.where[tote]; in {
		return api.ErrTwice
	}
	if w.taken(node) {
		return api.ErrHeld
	}
	w.where[tote] = node
	return api.OK
}

func (w *byWords) send(dev, tote, seq int) api.Errno {
	if w.noDevice(dev) || w.noTote(tote) || seq < 0 || seq > 65535 {
		return api.ErrRange
	}
	if _, told := w.told[dev]; told || w.down[dev] {
		return api.ErrState
	}
	if n, in := w.where[tote]; !in || n != w.edges[dev-1][0] {
		return api.ErrTote
	}
	for _, told := range w.told {
		if told[0] == tote {
			return api.ErrTote
		}
	}
	if w.taken(w.edges[dev-1][1]) {
		return api.ErrHeld
	}
	w.told[dev], w.last[dev] = [2]int{tote, seq}, seq
	return api.OK
}

func (w *byWords) moved(dev, tote int) api.Errno {
	if w.noDevice(dev) || w.noTote(tote) {
		return api.ErrRange
	}
	told, is := w.told[dev]
	if !is {
		return api.ErrNone
	}
	if told[0] != tote {
		return api.ErrTote
	}
	w.where[tote] = w.edges[dev-1][1]
	delete(w.told, dev)
	return api.OK
}

func (w *byWords) drop(dev int) api.Errno {
	if w.noDevice(dev) {
		return api.ErrRange
	}
	if _, is := w.told[dev]; !is {
		return api.ErrNone
	}
	delete(w.told, dev)
	return api.OK
}

func (w *byWords) mask(dev int, down bool) api.Errno {
	if w.noDevice(dev) {
		return api.ErrRange
	}
	w.down[dev] = down
	return api.OK
}

// op is a call of a mirror that may change it, with its numbers in their order; of a Mask the second one is 1, if it is down.
type op struct {
	name    string
	a, b, c int
}

func putOp(tote, node int) op      { return op{"Put", tote, node, 0} }
func sendOp(dev, tote, seq int) op { return op{"Send", dev, tote, seq} }
func movedOp(dev, tote int) op     { return op{"Moved", dev, tote, 0} }
func dropOp(dev int) op            { return op{"Drop", dev, 0, 0} }
func downOp(dev int) op            { return op{"Mask", dev, 1, 0} }
func mendOp(dev int) op            { return op{"Mask", dev, 0, 0} }

func (o op) onMirror(m *Mirror) api.Errno {
	switch o.name {
	case "Put":
		return m.Put(o.a, o.b)
	case "Send":
		return m.Send(o.a, o.b, o.c)
	case "Moved":
		return m.Moved(o.a, o.b)
	case "Drop":
		return m.Drop(o.a)
	}
	return m.Mask(o.a, o.b == 1)
}

func (o op) onWords(w *byWords) api.Errno {
	switch o.name {
	case "Put":
		return w.put(o.a, o.b)
	case "Send":
		return w.send(o.a, o.b, o.c)
	case "Moved":
		return w.moved(o.a, o.b)
	case "Drop":
		return w.drop(o.a)
	}
	return w.mask(o.a, o.b == 1)
}

// note is the note that says the same.
func (o op) note() api.Note {
	kinds := map[string]int{"Put": 1, "Send": 4, "Moved": 5, "Drop": 7, "Mask": 8}
	return api.Note{Kind: kinds[o.name], A: o.a, B: o.b, C: o.c}
}

// told is what a device was told.
type told struct {
	tote, seq int
	is        bool
}

// said is a device's last Seq.
type said struct {
	seq int
	is  bool
}

// look is what can be asked of a mirror, from numbers that are no tote, node or device to such numbers.
type look struct {
	where [35]int // of the totes from -2 on
	at    [45]int // of the nodes from -2 on
	taken [45]bool
	told  [125]told // of the devices from -2 on
	last  [125]said
	down  string
}

func lookAt(m *Mirror) look {
	var l look
	for i := range l.where {
		l.where[i] = m.Where(i - 2)
	}
	for i := range l.at {
		l.at[i], l.taken[i] = m.At(i-2), m.Taken(i-2)
	}
	for i := range l.told {
		l.told[i].tote, l.told[i].seq, l.told[i].is = m.Told(i - 2)
		l.last[i].seq, l.last[i].is = m.Last(i - 2)
	}
	l.down = fmt.Sprint(m.Down())
	return l
}

func (w *byWords) look() look {
	var l look
	for i := range l.where {
		l.where[i] = -1
	}
	for tote, node := range w.where {
		l.where[tote+2], l.at[node+2], l.taken[node+2] = node, tote, true
	}
	for dev, t := range w.told {
		l.told[dev+2], l.taken[w.edges[dev-1][1]+2] = told{t[0], t[1], true}, true
	}
	for dev, seq := range w.last {
		l.last[dev+2] = said{seq, true}
	}
	var down []int
	for dev := range w.edges {
		if w.down[dev+1] {
			down = append(down, dev+1)
		}
	}
	l.down = fmt.Sprint(down)
	return l
}

// String tells what is there alone.
func (l look) String() string {
	s := fmt.Sprint("down ", l.down)
	for i, node := range l.where {
		if node != -1 {
			s += fmt.Sprint(", tote ", i-2, " at ", node)
		}
	}
	for i := range l.at {
		if l.at[i] != 0 || l.taken[i] {
			s += fmt.Sprint(", node ", i-2, ": ", l.at[i], " ", l.taken[i])
		}
	}
	for i := range l.told {
		if l.told[i] != (told{}) || l.last[i] != (said{}) {
			s += fmt.Sprint(", device ", i-2, ": ", l.told[i], " last ", l.last[i])
		}
	}
	return s
}

// nodes are so many tracks.
func nodes(many int) []api.Node {
	var list []api.Node
	for i := range many {
		list = append(list, api.Node{Name: fmt.Sprint("n", i), Kind: api.NTrack})
	}
	return list
}

// tracks is a layout of so many tracks, with these edges.
func tracks(many int, edges ...[2]int) api.Layout {
	return api.Layout{Nodes: nodes(many), Edges: edges}
}

func ring(many int) api.Layout {
	l := tracks(many)
	for i := range many {
		l.Edges = append(l.Edges, [2]int{i, (i + 1) % many})
	}
	return l
}

// wide has 40 nodes and 120 edges.
func wide() api.Layout {
	l := tracks(40)
	for i := range 40 {
		for _, on := range []int{1, 39, 7} {
			l.Edges = append(l.Edges, [2]int{i, (i + on) % 40})
		}
	}
	return l
}

// fork has two devices with the same beginning (1 and 2), two with the same end (2 and 3), and one each way between two nodes
// (1 and 4).
func fork() api.Layout {
	return tracks(3, [2]int{0, 1}, [2]int{0, 2}, [2]int{1, 2}, [2]int{1, 0})
}

// kinds has a node of each kind.
func kinds() api.Layout {
	l, _, _ := layout.Parse("node a track 0\nnode b track 7\nnode s slot 1\nnode p station 2\nnode g gate 3\n" +
		"edge g a\nedge a b\nedge b a\nedge a s\nedge s b\nedge b p\nedge p a\n")
	return l
}

// layouts are some of all sizes.
func layouts() []api.Layout {
	return []api.Layout{tracks(1), tracks(40), ring(2), ring(3), fork(), kinds(), ring(40), wide()}
}

// anySize are numbers of any size.
func anySize() []int {
	return []int{0, -1, 1, -2, 2, 3, 29, 30, 31, 39, 40, 41, 119, 120, 121, 200, 65535, 65536, 1 << 31, 1 << 32, 1<<32 + 1, -1 << 32, math.MinInt, math.MinInt + 1, math.MaxInt - 1, math.MaxInt}
}

// double has a mirror and its plain form side by side, and holds each call of the one against the other. Each call is made by
// a note too, of a mirror of its own.
type double struct {
	t     testing.TB
	m     *Mirror
	notes *Mirror
	w     *byWords
}

func newMirror(t testing.TB, l api.Layout) *Mirror {
	t.Helper()
	m, e := New(l)
	if e != api.OK || m == nil {
		t.Fatalf("New of %v: %v, %d", l, m, e)
	}
	return m
}

func newDouble(t testing.TB, l api.Layout) *double {
	t.Helper()
	d := &double{t, newMirror(t, l), newMirror(t, l), newWords(l)}
	d.same()
	return d
}

func (d *double) same() {
	d.t.Helper()
	want := d.w.look()
	if got := lookAt(d.m); got != want {
		d.t.Fatalf("%v, not %v", got, want)
	}
	if got := lookAt(d.notes); got != want {
		d.t.Fatalf("by notes: %v, not %v", got, want)
	}
}

func (d *double) call(o op) api.Errno {
	d.t.Helper()
	before := d.w.look()
	got, want := o.onMirror(d.m), o.onWords(d.w)
	if got != want {
		d.t.Fatalf("%v: %v: %d, not %d", before, o, got, want)
	}
	if got := d.notes.Apply(o.note()); got != want {
		d.t.Fatalf("%v: Apply(%v): %d, not %d", before, o.note(), got, want)
	}
	d.same()
	return got
}

// does wants calls without an error.
func (d *double) does(ops ...op) {
	d.t.Helper()
	for _, o := range ops {
		if e := d.call(o); e != api.OK {
			d.t.Fatalf("%v: %v: %d", d.w.look(), o, e)
		}
	}
}

// refused wants an error, and nothing changed.
func (d *double) refused(want api.Errno, ops ...op) {
	d.t.Helper()
	for _, o := range ops {
		before := lookAt(d.m)
		if e := d.call(o); e != want {
			d.t.Fatalf("%v: %v: %d, not %d", before, o, e, want)
		}
		if after := lookAt(d.m); after != before {
			d.t.Fatalf("%v: %d: %v became %v", o, want, before, after)
		}
	}
}

// at wants a tote at a node, and nowhere else.
func (d *double) at(tote, node int) {
	d.t.Helper()
	if n, on := d.m.Where(tote), d.m.At(node); n != node || on != tote || !d.m.Taken(node) {
		d.t.Fatalf("tote %d at %d, and not at %d, where %d is", tote, n, node, on)
	}
}

// free wants these nodes free, and no others.
func (d *double) free(want ...int) {
	d.t.Helper()
	var got []int
	for node := range d.w.nodes {
		if !d.m.Taken(node) {
			got = append(got, node)
		}
	}
	if !slices.Equal(got, want) {
		d.t.Fatalf("free: %v, not %v", got, want)
	}
}

// told wants that a device was told this.
func (d *double) told(dev, tote, seq int) {
	d.t.Helper()
	if a, b, is := d.m.Told(dev); a != tote || b != seq || !is {
		d.t.Fatalf("Told(%d): %d, %d, %v, not %d, %d", dev, a, b, is, tote, seq)
	}
}

// untold wants that devices were told nothing.
func (d *double) untold(devices ...int) {
	d.t.Helper()
	for _, dev := range devices {
		if a, b, is := d.m.Told(dev); a != 0 || b != 0 || is {
			d.t.Fatalf("Told(%d): %d, %d, %v", dev, a, b, is)
		}
	}
}

// last wants this last Seq of a device, and never that it has none.
func (d *double) last(dev, want int) {
	d.t.Helper()
	if seq, is := d.m.Last(dev); seq != want || !is {
		d.t.Fatalf("Last(%d): %d, %v, not %d", dev, seq, is, want)
	}
}

func (d *double) never(dev int) {
	d.t.Helper()
	if seq, is := d.m.Last(dev); seq != 0 || is {
		d.t.Fatalf("Last(%d): %d, %v", dev, seq, is)
	}
}

func (d *double) down(want ...int) {
	d.t.Helper()
	if got := d.m.Down(); !slices.Equal(got, want) {
		d.t.Fatalf("Down: %v, not %v", got, want)
	}
}

func TestP17_1_Example(t *testing.T) {
	d := newDouble(t, ring(3))
	d.does(putOp(5, 0), sendOp(1, 5, 9))
	if !d.m.Taken(1) || d.m.At(1) != 0 {
		t.Errorf("Taken(1): %v, At(1): %d", d.m.Taken(1), d.m.At(1))
	}
	d.at(5, 0)
	d.told(1, 5, 9)
	d.does(movedOp(1, 5))
	d.at(5, 1)
	d.untold(1)
	d.refused(api.ErrTote, sendOp(1, 5, 10))
	d.free(0, 2)
}

// noLayouts are some that are none.
func noLayouts() []api.Layout {
	named := func(names ...string) api.Layout {
		l := tracks(len(names))
		for i, name := range names {
			l.Nodes[i].Name = name
		}
		return l
	}
	of := func(kind, zone int) api.Layout {
		l := ring(3)
		l.Nodes[2].Kind, l.Nodes[2].Zone = kind, zone
		return l
	}
	slots := tracks(3, [2]int{0, 1}, [2]int{1, 2})
	slots.Nodes[1].Kind, slots.Nodes[2].Kind = api.NSlot, api.NStation
	many := wide()
	many.Edges = append(many.Edges, [2]int{0, 20})
	return []api.Layout{
		{}, {Edges: [][2]int{{0, 1}}}, tracks(0), tracks(41), ring(41), many, slots,
		named(""), named("a", "a"), named("1a"), named("A"), named("a b"), named("abcdefghi"),
		of(0, 0), of(5, 0), of(-1, 0), of(1, -1), of(1, 8),
		tracks(3, [2]int{0, 3}), tracks(3, [2]int{-1, 0}), tracks(3, [2]int{3, 0}), tracks(3, [2]int{0, -1}), tracks(3, [2]int{1, 1}),
		tracks(3, [2]int{0, 1}, [2]int{1, 2}, [2]int{0, 1}), tracks(1, [2]int{0, 0}),
		tracks(3, [2]int{math.MinInt, math.MaxInt}),
	}
}

func TestP17_1_NewOfWhatIsNoLayout(t *testing.T) {
	for _, l := range noLayouts() {
		if m, e := New(l); m != nil || e != api.ErrPart {
			t.Errorf("New of %v: %v, %d", l, m, e)
		}
	}
}

func TestP17_1_NewHasNone(t *testing.T) {
	for _, l := range layouts() {
		d := newDouble(t, l)
		for _, n := range anySize() {
			if d.m.Where(n) != -1 || d.m.At(n) != 0 || d.m.Taken(n) {
				t.Errorf("%d: Where %d, At %d, Taken %v", n, d.m.Where(n), d.m.At(n), d.m.Taken(n))
			}
			d.untold(n)
			d.never(n)
		}
		d.down()
		for dev := 1; dev <= len(l.Edges); dev++ {
			d.refused(api.ErrNone, dropOp(dev), movedOp(dev, 1), movedOp(dev, 30))
			d.refused(api.ErrTote, sendOp(dev, 1, 0), sendOp(dev, 30, 65535))
		}
	}
}

// TestP17_1_AskingForWhatIsNot: when all is full, and each device that can be is told something.
func TestP17_1_AskingForWhatIsNot(t *testing.T) {
	for _, l := range layouts() {
		d := newDouble(t, l)
		for tote := 1; tote <= min(29, len(l.Nodes)); tote += 2 {
			d.does(putOp(tote, tote-1))
		}
		for dev := 1; dev <= len(l.Edges); dev++ {
			if tote := d.m.At(l.Edges[dev-1][0]); tote > 0 {
				d.call(sendOp(dev, tote, 60000+dev))
			}
			d.does(downOp(dev))
		}
		for _, n := range anySize() {
			if (n < 1 || n > 30 || n%2 == 0) && d.m.Where(n) != -1 {
				t.Errorf("Where(%d): %d", n, d.m.Where(n))
			}
			if (n < 0 || n >= len(l.Nodes)) && (d.m.At(n) != 0 || d.m.Taken(n)) {
				t.Errorf("At(%d): %d, Taken %v", n, d.m.At(n), d.m.Taken(n))
			}
			if n < 1 || n > len(l.Edges) {
				d.untold(n)
				d.never(n)
			}
		}
	}
}

// TestP17_1_TheFirstAndTheLast: totes, nodes, devices and Seqs, in layouts of all sizes.
func TestP17_1_TheFirstAndTheLast(t *testing.T) {
	for _, l := range layouts() {
		for _, tote := range []int{1, 2, 29, 30} {
			for _, node := range []int{0, len(l.Nodes) - 1} {
				d := newDouble(t, l)
				d.does(putOp(tote, node))
				d.at(tote, node)
			}
			if len(l.Edges) == 0 {
				continue
			}
			for _, dev := range []int{1, len(l.Edges)} {
				for _, seq := range []int{0, 1, 65534, 65535} {
					d, edge := newDouble(t, l), l.Edges[dev-1]
					d.does(putOp(tote, edge[0]), sendOp(dev, tote, seq))
					d.told(dev, tote, seq)
					d.last(dev, seq)
					d.does(downOp(dev))
					d.down(dev)
					d.does(movedOp(dev, tote), mendOp(dev))
					d.at(tote, edge[1])
					d.untold(dev)
					d.last(dev, seq)
					d.down()
				}
			}
		}
	}
}

// TestP17_1_AllOfThem: as many totes as there can be, and 120 devices; each tote goes on by one.
func TestP17_1_AllOfThem(t *testing.T) {
	l := wide()
	d := newDouble(t, l)
	for tote := 1; tote <= 30; tote++ {
		d.does(putOp(tote, tote-1))
	}
	d.refused(api.ErrRange, putOp(31, 35))
	// Each edge to the next node is the first of three.
	for tote := 29; tote >= 1; tote-- {
		d.refused(api.ErrHeld, sendOp(3*tote-2, tote, tote))
	}
	for tote := 30; tote >= 1; tote-- {
		d.does(sendOp(3*tote-2, tote, tote))
		d.does(movedOp(3*tote-2, tote))
	}
	for tote := 1; tote <= 30; tote++ {
		d.at(tote, tote)
	}
	// One each way: those that stand between others can't go by the edges to the next ones, but by the third.
	for tote := 1; tote <= 30; tote++ {
		d.call(sendOp(3*tote+3, tote, 5))
	}
	for dev := 1; dev <= 120; dev++ {
		d.does(downOp(dev))
	}
	if len(d.m.Down()) != 120 {
		t.Errorf("Down: %v", d.m.Down())
	}
}

// outside are calls with a number outside its range, with the others as these.
func outside(l api.Layout, tote, node, dev, seq int) []op {
	var list []op
	for _, n := range []int{0, -1, 31, 32, 1 << 32, 1<<32 + tote, math.MinInt, math.MaxInt} {
		list = append(list, putOp(n, node), sendOp(dev, n, seq), movedOp(dev, n))
	}
	for _, n := range []int{-1, -2, len(l.Nodes), len(l.Nodes) + 1, 40, 1 << 32, 1<<32 + node, math.MinInt, math.MaxInt} {
		list = append(list, putOp(tote, n))
	}
	for _, n := range []int{0, -1, len(l.Edges) + 1, len(l.Edges) + 2, 121, 201, 1 << 32, 1<<32 + dev, math.MinInt, math.MaxInt} {
		list = append(list, sendOp(n, tote, seq), movedOp(n, tote), dropOp(n), downOp(n), mendOp(n))
		list = append(list, sendOp(n, 0, -1), movedOp(n, 31))
	}
	for _, n := range []int{-1, -2, 65536, 65537, 1 << 32, 1<<32 + seq, math.MinInt, math.MaxInt} {
		list = append(list, sendOp(dev, tote, n))
	}
	return list
}

// TestP17_1_OutsideTheRanges: ahead of every other error, whatever the mirror has, and of what would be done too.
func TestP17_1_OutsideTheRanges(t *testing.T) {
	for _, l := range layouts() {
		d := newDouble(t, l)
		all := func() { d.refused(api.ErrRange, outside(l, 5, 0, 1, 9)...) }
		all()
		d.does(putOp(5, 0))
		all()
		if len(l.Edges) == 0 {
			continue
		}
		edge := l.Edges[0]
		d = newDouble(t, l)
		all = func() { d.refused(api.ErrRange, outside(l, 5, edge[1], 1, 9)...) }
		d.does(downOp(1))
		all()
		d.does(mendOp(1), putOp(5, edge[0]))
		all()
		d.does(sendOp(1, 5, 9))
		all()
		d.does(downOp(1))
		all()
		d.does(dropOp(1), putOp(6, edge[1]))
		all()
		d.does(mendOp(1))
		d.refused(api.ErrHeld, sendOp(1, 5, 9))
		all()
	}
}

// TestP17_1_PutOfAToteThatIsInIt: wherever; at its own node, at a free one, and ahead of ErrHeld.
func TestP17_1_PutOfAToteThatIsInIt(t *testing.T) {
	d := newDouble(t, ring(5))
	d.does(putOp(1, 0), putOp(30, 3), sendOp(1, 1, 4))
	all := func() {
		for node := range 5 {
			d.refused(api.ErrTwice, putOp(1, node), putOp(30, node))
		}
	}
	all()
	d.does(movedOp(1, 1))
	all()
	d.does(sendOp(2, 1, 5), dropOp(2))
	all()
}

func TestP17_1_PutAtATakenNode(t *testing.T) {
	d := newDouble(t, ring(4))
	d.does(putOp(1, 0))
	d.refused(api.ErrHeld, putOp(2, 0), putOp(30, 0))
	d.does(sendOp(1, 1, 7))
	d.refused(api.ErrHeld, putOp(2, 0), putOp(2, 1), putOp(30, 1))
	d.free(2, 3)
	d.does(dropOp(1))
	d.free(1, 2, 3)
	d.does(putOp(2, 1))
	d.at(2, 1)
	d.at(1, 0)
	d.does(sendOp(2, 2, 0), movedOp(2, 2))
	d.free(1, 3)
	d.does(putOp(3, 1))
	d.at(3, 1)
	d.refused(api.ErrHeld, putOp(4, 0), putOp(4, 1), putOp(4, 2))
	d.does(putOp(4, 3))
	d.free()
}

// TestP17_1_SendByADeviceThatCannot: ErrState comes ahead of ErrTote and of ErrHeld.
func TestP17_1_SendByADeviceThatCannot(t *testing.T) {
	every := []op{sendOp(1, 1, 8), sendOp(1, 2, 8), sendOp(1, 3, 8), sendOp(1, 30, 8), sendOp(1, 1, 0), sendOp(1, 1, 65535)}
	d := newDouble(t, ring(3))
	d.does(downOp(1))
	d.refused(api.ErrState, every...) // the totes aren't in it
	d.does(putOp(1, 0))
	d.refused(api.ErrState, every...)
	d.does(putOp(2, 1))
	d.refused(api.ErrState, every...) // and the end is taken
	d.does(mendOp(1))
	d.refused(api.ErrHeld, sendOp(1, 1, 8))
	d.refused(api.ErrTote, sendOp(1, 2, 8), sendOp(1, 3, 8))
	d.does(sendOp(2, 2, 1), movedOp(2, 2))
	d.does(sendOp(1, 1, 8))
	d.refused(api.ErrState, every...) // it was told something
	d.told(1, 1, 8)
	d.last(1, 8)
	d.does(downOp(1))
	d.refused(api.ErrState, every...)
	d.does(movedOp(1, 1))
	d.refused(api.ErrState, every...) // still out of order
	d.does(mendOp(1))
	d.refused(api.ErrTote, every...)
}

// TestP17_1_SendOfAnotherTote: ErrTote comes ahead of ErrHeld.
func TestP17_1_SendOfAnotherTote(t *testing.T) {
	d := newDouble(t, fork())
	d.refused(api.ErrTote, sendOp(1, 1, 0), sendOp(2, 1, 0), sendOp(3, 1, 0), sendOp(4, 30, 0)) // none is in it
	d.does(putOp(1, 0))
	d.refused(api.ErrTote, sendOp(3, 1, 0), sendOp(4, 1, 0)) // it is at the end of 4, and at none of 3
	d.refused(api.ErrTote, sendOp(1, 2, 0), sendOp(1, 30, 0))
	d.does(putOp(2, 1), putOp(3, 2)) // all ends are taken
	d.refused(api.ErrTote, sendOp(1, 2, 0), sendOp(1, 3, 0), sendOp(1, 4, 0), sendOp(2, 3, 0), sendOp(3, 1, 0), sendOp(3, 3, 0), sendOp(4, 1, 0), sendOp(4, 3, 0))
	d.refused(api.ErrHeld, sendOp(1, 1, 0), sendOp(2, 1, 0), sendOp(3, 2, 0), sendOp(4, 2, 0))
}

// TestP17_1_TwoDevicesWithTheSameBeginning: what the one was told to move the other one isn't, whether its end is free or not.
func TestP17_1_TwoDevicesWithTheSameBeginning(t *testing.T) {
	for _, full := range []bool{false, true} {
		d := newDouble(t, fork())
		d.does(putOp(1, 0), sendOp(1, 1, 3))
		if full {
			d.does(putOp(9, 2))
		}
		d.refused(api.ErrTote, sendOp(2, 1, 3), sendOp(2, 1, 0))
		d.untold(2)
		d.never(2)
		d.does(dropOp(1))
		if full {
			d.refused(api.ErrHeld, sendOp(2, 1, 3))
			continue
		}
		d.does(sendOp(2, 1, 4))
		d.refused(api.ErrTote, sendOp(1, 1, 4))
		d.does(movedOp(2, 1))
		d.at(1, 2)
		d.refused(api.ErrTote, sendOp(1, 1, 4), sendOp(2, 1, 5))
	}
}

// TestP17_1_TwoDevicesWithTheSameEnd: the end that the one was told to move to is taken for the other one.
func TestP17_1_TwoDevicesWithTheSameEnd(t *testing.T) {
	d := newDouble(t, fork())
	d.does(putOp(1, 0), putOp(2, 1), sendOp(2, 1, 3))
	d.free()
	d.refused(api.ErrHeld, sendOp(3, 2, 3))
	d.does(dropOp(2))
	d.free(2)
	d.does(sendOp(3, 2, 3))
	d.refused(api.ErrHeld, sendOp(2, 1, 4))
	d.does(movedOp(3, 2))
	d.refused(api.ErrHeld, sendOp(2, 1, 4))
	d.at(2, 2)
	d.free(1)
}

// TestP17_1_TheBeginningIsTakenTillItIsLeft: what goes the other way can't come to it.
func TestP17_1_TheBeginningIsTakenTillItIsLeft(t *testing.T) {
	d := newDouble(t, tracks(3, [2]int{0, 1}, [2]int{1, 0}, [2]int{2, 0}))
	d.does(putOp(1, 0), putOp(2, 2), sendOp(1, 1, 1))
	d.refused(api.ErrHeld, sendOp(3, 2, 1))
	d.does(movedOp(1, 1))
	d.does(sendOp(3, 2, 1))
	d.refused(api.ErrHeld, sendOp(2, 1, 1))
	d.does(movedOp(3, 2))
	d.refused(api.ErrHeld, sendOp(1, 2, 1), sendOp(2, 1, 1))
}

func TestP17_1_MovedAndDropOfWhatWasNotTold(t *testing.T) {
	d := newDouble(t, fork())
	d.does(putOp(1, 0), putOp(2, 1))
	d.refused(api.ErrNone, movedOp(1, 1), movedOp(2, 1), movedOp(2, 2), movedOp(3, 2), movedOp(4, 30), dropOp(1), dropOp(2), dropOp(3), dropOp(4))
	d.does(sendOp(2, 1, 0))
	d.refused(api.ErrNone, movedOp(1, 1), movedOp(3, 2), movedOp(4, 2), dropOp(1), dropOp(3), dropOp(4))
	d.refused(api.ErrTote, movedOp(2, 2), movedOp(2, 3), movedOp(2, 30))
	d.told(2, 1, 0)
	d.at(1, 0)
	d.does(movedOp(2, 1))
	d.refused(api.ErrNone, movedOp(2, 1), movedOp(2, 2), dropOp(2))
	d.does(sendOp(4, 2, 1), dropOp(4))
	d.refused(api.ErrNone, movedOp(4, 2), dropOp(4))
	d.at(2, 1)
}

// TestP17_1_ToldAgain: behind a Moved and behind a Drop, the same tote and another one.
func TestP17_1_ToldAgain(t *testing.T) {
	d := newDouble(t, ring(3))
	d.never(1)
	d.does(putOp(1, 0), sendOp(1, 1, 65535))
	d.last(1, 65535)
	d.does(dropOp(1))
	d.last(1, 65535)
	d.untold(1)
	d.does(sendOp(1, 1, 0))
	d.told(1, 1, 0)
	d.last(1, 0)
	d.does(movedOp(1, 1))
	d.last(1, 0)
	d.untold(1)
	d.does(putOp(2, 0), sendOp(2, 1, 77), movedOp(2, 1), sendOp(1, 2, 12))
	d.told(1, 2, 12)
	d.last(1, 12)
	d.last(2, 77)
	d.never(3)
	d.does(dropOp(1), sendOp(1, 2, 12))
	d.told(1, 2, 12)
	d.refused(api.ErrState, sendOp(1, 2, 13))
	d.last(1, 12)
}

// TestP17_1_ARefusedSendIsNotTheLast: each of its errors.
func TestP17_1_ARefusedSendIsNotTheLast(t *testing.T) {
	for _, ever := range []bool{false, true} {
		d := newDouble(t, fork())
		d.does(putOp(1, 0))
		check := func() { d.t.Helper(); d.never(1) }
		if ever {
			d.does(sendOp(1, 1, 5), dropOp(1))
			check = func() { d.t.Helper(); d.last(1, 5) }
		}
		d.refused(api.ErrRange, sendOp(1, 1, 65536), sendOp(1, 0, 9))
		check()
		d.refused(api.ErrTote, sendOp(1, 2, 9))
		check()
		d.does(putOp(2, 1))
		d.refused(api.ErrHeld, sendOp(1, 1, 9))
		check()
		d.does(downOp(1))
		d.refused(api.ErrState, sendOp(1, 1, 9))
		check()
	}
}

// TestP17_1_OutOfOrderAndTold: a device that is out of order may have done what it was told, and may not.
func TestP17_1_OutOfOrderAndTold(t *testing.T) {
	for _, end := range []op{movedOp(1, 5), dropOp(1)} {
		d := newDouble(t, ring(3))
		d.does(putOp(5, 0), sendOp(1, 5, 9), downOp(1))
		d.told(1, 5, 9)
		d.free(2)
		d.down(1)
		d.refused(api.ErrTote, movedOp(1, 6))
		d.does(end)
		d.untold(1)
		d.last(1, 9)
		d.down(1)
		d.refused(api.ErrNone, movedOp(1, 5), dropOp(1))
		d.refused(api.ErrState, sendOp(1, 5, 10))
		d.does(mendOp(1))
		d.down()
		if end.name == "Drop" {
			d.does(sendOp(1, 5, 10))
			d.told(1, 5, 10)
		}
	}
}

func TestP17_1_MaskedTwiceAndMended(t *testing.T) {
	d := newDouble(t, wide())
	d.does(mendOp(7))
	d.down()
	for _, dev := range []int{120, 7, 1, 64, 119, 2} {
		d.does(downOp(dev), downOp(dev))
	}
	d.down(1, 2, 7, 64, 119, 120)
	d.does(mendOp(64))
	d.down(1, 2, 7, 119, 120)
	d.does(mendOp(64), mendOp(1), mendOp(120), downOp(64))
	d.down(2, 7, 64, 119)
	d.does(putOp(1, 0), sendOp(1, 1, 0))
	d.refused(api.ErrState, sendOp(2, 1, 0))
	for dev := range 120 {
		d.does(mendOp(dev + 1))
	}
	d.down()
}

// TestP17_1_Apply: what a kind doesn't use is nothing to it, and a JMask's B is 1, or it is in order.
func TestP17_1_Apply(t *testing.T) {
	m := newMirror(t, ring(3))
	ok := func(n api.Note) {
		t.Helper()
		if e := m.Apply(n); e != api.OK {
			t.Fatalf("Apply(%v): %d", n, e)
		}
	}
	ok(api.Note{Kind: api.JPut, A: 5, B: 0, C: -1})
	ok(api.Note{Kind: api.JPut, A: 6, B: 2, C: 70000})
	ok(api.Note{Kind: api.JSend, A: 1, B: 5, C: 65535})
	if tote, seq, is := m.Told(1); m.Where(5) != 0 || m.Where(6) != 2 || tote != 5 || seq != 65535 || !is {
		t.Fatalf("%v", lookAt(m))
	}
	ok(api.Note{Kind: api.JMoved, A: 1, B: 5, C: -70000})
	if m.Where(5) != 1 || m.Taken(0) {
		t.Fatalf("%v", lookAt(m))
	}
	ok(api.Note{Kind: api.JSend, A: 3, B: 6, C: 0})
	ok(api.Note{Kind: api.JDropped, A: 3, B: 1000, C: math.MinInt})
	if _, _, is := m.Told(3); is || m.Where(6) != 2 || m.Taken(0) {
		t.Fatalf("%v", lookAt(m))
	}
	for _, b := range []int{0, 2, -1, 3, 256, 257, 1 << 32, 1<<32 + 1, math.MinInt, math.MaxInt} {
		ok(api.Note{Kind: api.JMask, A: 2, B: 1, C: b})
		if !slices.Equal(m.Down(), []int{2}) {
			t.Errorf("Down: %v", m.Down())
		}
		ok(api.Note{Kind: api.JMask, A: 2, B: b, C: 1})
		if len(m.Down()) != 0 {
			t.Errorf("B %d: Down: %v", b, m.Down())
		}
	}
}

// TestP17_1_ApplyOfAnyOtherKind: whatever its numbers are.
func TestP17_1_ApplyOfAnyOtherKind(t *testing.T) {
	for _, l := range layouts() {
		m := newMirror(t, l)
		m.Put(1, 0)
		m.Send(1, 1, 3)
		before := lookAt(m)
		for _, kind := range []int{0, api.JOrder, api.JCancel, api.JServed, 9, 10, -1, -4, 256 + 1, 256 + 4, 1 << 32, 1<<32 + 1, 1<<32 + 8, math.MinInt, math.MaxInt} {
			for _, n := range []int{0, 1, 2, 30, 31, -1, 65536, math.MinInt} {
				for _, note := range []api.Note{{Kind: kind, A: n, B: n, C: n}, {Kind: kind, A: 1, B: n}, {Kind: kind, A: n, B: 1}, {Kind: kind, A: 1, B: 1, C: n}} {
					if e := m.Apply(note); e != api.ErrKind {
						t.Fatalf("Apply(%v): %d", note, e)
					}
				}
			}
		}
		if after := lookAt(m); after != before {
			t.Errorf("%v became %v", before, after)
		}
	}
}

// replay has a mirror on which these calls were made, each held against the words.
func replay(t *testing.T, l api.Layout, calls []op) *double {
	t.Helper()
	d := newDouble(t, l)
	for _, o := range calls {
		d.call(o)
	}
	return d
}

// everyList calls each list of so many calls.
func everyList(t *testing.T, l api.Layout, ops, ahead []op, length int) {
	t.Helper()
	if length == 0 {
		replay(t, l, ahead)
		return
	}
	for _, o := range ops {
		everyList(t, l, ops, append(ahead[:len(ahead):len(ahead)], o), length-1)
	}
}

func TestP17_1_EveryShortListOfCalls(t *testing.T) {
	everyList(t, fork(), []op{putOp(1, 0), putOp(2, 1), sendOp(1, 1, 0), sendOp(2, 1, 1), sendOp(3, 2, 1), movedOp(2, 1), dropOp(2), downOp(2), mendOp(2)}, nil, 4)
	everyList(t, ring(2), []op{putOp(1, 0), sendOp(1, 1, 2), sendOp(2, 1, 3), movedOp(1, 1), dropOp(1)}, nil, 5)
}

// everyOp are all calls with numbers of a layout, two totes and two Seqs, and one outside each.
func everyOp(l api.Layout) []op {
	var list []op
	for tote := range 3 {
		for node := range len(l.Nodes) + 1 {
			list = append(list, putOp(tote, node))
		}
		for dev := range len(l.Edges) + 2 {
			list = append(list, sendOp(dev, tote, 0), sendOp(dev, tote, 65535), sendOp(dev, tote, 65536), movedOp(dev, tote))
		}
	}
	for dev := range len(l.Edges) + 2 {
		list = append(list, dropOp(dev), downOp(dev), mendOp(dev))
	}
	return list
}

// after has a mirror and its plain form behind these calls.
func after(t *testing.T, l api.Layout, calls []op) (*Mirror, *byWords) {
	t.Helper()
	m, w := newMirror(t, l), newWords(l)
	for _, o := range calls {
		o.onMirror(m)
		o.onWords(w)
	}
	return m, w
}

// everyCall makes each call behind these ones, and tells which of them change something.
func everyCall(t *testing.T, l api.Layout, way []op) []op {
	t.Helper()
	var change []op
	m, w := after(t, l, way)
	before := lookAt(m)
	for _, o := range everyOp(l) {
		got, want := o.onMirror(m), o.onWords(w)
		now := lookAt(m)
		if got != want || now != w.look() {
			t.Fatalf("%v: %v: %d, %v, not %d, %v", before, o, got, now, want, w.look())
		}
		if now == before {
			continue
		}
		if got != api.OK {
			t.Fatalf("%v: %d: %v became %v", o, got, before, now)
		}
		change = append(change, o)
		m, w = after(t, l, way)
	}
	return change
}

// TestP17_1_EveryCallInEveryState: all states of small mirrors that can be had by calls, and all calls in each.
func TestP17_1_EveryCallInEveryState(t *testing.T) {
	for _, l := range []api.Layout{tracks(1), tracks(2, [2]int{0, 1}), ring(2), tracks(3, [2]int{0, 1}, [2]int{0, 2}), tracks(3, [2]int{0, 2}, [2]int{1, 2})} {
		seen := map[look]bool{}
		ways := [][]op{nil}
		for len(ways) > 0 {
			way := ways[0]
			ways = ways[1:]
			_, w := after(t, l, way)
			if seen[w.look()] {
				continue
			}
			seen[w.look()] = true
			for _, o := range everyCall(t, l, way) {
				ways = append(ways, append(way[:len(way):len(way)], o))
			}
		}
		if many := len(seen); many < 3 || len(l.Edges) == 2 && many < 200 {
			t.Errorf("%v: %d states", l.Edges, many)
		}
	}
}

// chanceOp is a call by chance: now one that can be done, now one that may not.
func chanceOp(rnd *rand.Rand, w *byWords) op {
	tote, node, dev, seq := 1+rnd.Intn(30), rnd.Intn(w.nodes), 1+rnd.Intn(max(1, len(w.edges))), rnd.Intn(65536)
	if len(w.edges) > 0 && rnd.Intn(4) > 0 {
		if at := w.at(w.edges[dev-1][0]); at > 0 {
			tote = at
		}
	}
	if t, is := w.told[dev]; is {
		tote = []int{tote, t[0], t[0], 1 + t[0]%30}[rnd.Intn(4)]
	}
	switch rnd.Intn(25) {
	case 0:
		tote = []int{0, -1, 31, math.MaxInt, math.MinInt, 1 << 32}[rnd.Intn(6)]
	case 1:
		node = []int{-1, w.nodes, w.nodes + 1, math.MaxInt, math.MinInt, 1 << 32}[rnd.Intn(6)]
	case 2:
		dev = []int{0, -1, len(w.edges) + 1, len(w.edges) + 2, math.MaxInt, math.MinInt, 1<<32 + 1}[rnd.Intn(7)]
	case 3:
		seq = []int{-1, 65536, math.MaxInt, math.MinInt, 1 << 32}[rnd.Intn(5)]
	case 4:
		seq = 65535 * rnd.Intn(2)
	}
	ops := []op{putOp(tote, node), putOp(tote, node), sendOp(dev, tote, seq), sendOp(dev, tote, seq), sendOp(dev, tote, seq), sendOp(dev, tote, seq),
		movedOp(dev, tote), movedOp(dev, tote), dropOp(dev), mendOp(dev), mendOp(dev), mendOp(dev), downOp(dev)}
	return ops[rnd.Intn(len(ops))]
}

// chanceRun calls f with a double and call by call what comes by chance.
func chanceRun(t *testing.T, l api.Layout, calls, seed int, f func(d *double, o op)) {
	t.Helper()
	rnd := rand.New(rand.NewSource(int64(seed)))
	d := newDouble(t, l)
	for range calls {
		f(d, chanceOp(rnd, d.w))
	}
}

func TestP17_1_LongListsOfCalls(t *testing.T) {
	count := map[string]int{}
	for at, l := range layouts() {
		for run := range 2 {
			chanceRun(t, l, 2000, 100*at+run, func(d *double, o op) {
				count[fmt.Sprint(o.name, " ", int(d.call(o)))]++
			})
		}
	}
	for _, way := range []string{
		"Put 0", "Put 1", "Put 2", "Put 100", "Send 0", "Send 1", "Send 140", "Send 160", "Send 100",
		"Moved 0", "Moved 1", "Moved 4", "Moved 160", "Drop 0", "Drop 1", "Drop 4", "Mask 0", "Mask 1",
	} {
		if count[way] < 40 {
			t.Errorf("%s: %d times", way, count[way])
		}
	}
}

func TestP17_1_WhatIsRefusedChangesNothing(t *testing.T) {
	for at, l := range layouts() {
		chanceRun(t, l, 1000, 1000+at, func(d *double, o op) {
			before := lookAt(d.m)
			e := d.call(o)
			if after := lookAt(d.m); e != api.OK && after != before {
				t.Fatalf("%v: %d: %v became %v", o, e, before, after)
			}
		})
	}
}

// census is what is known of a mirror by its answers alone: which totes were put, and where each was.
type census struct {
	edges [][2]int
	where map[int]int
}

// check wants one tote a node, one device an end and a tote, and all totes that were put where they were, or moved as told.
func (c *census) check(t *testing.T, m *Mirror, o op, e api.Errno) {
	t.Helper()
	if e == api.OK && o.name == "Put" {
		c.where[o.a] = o.b
	}
	if e == api.OK && o.name == "Moved" {
		if c.where[o.b] != c.edges[o.a-1][0] {
			t.Fatalf("%v: the tote was at %d", o, c.where[o.b])
		}
		c.where[o.b] = c.edges[o.a-1][1]
	}
	full := map[int]int{}
	for tote := 1; tote <= 30; tote++ {
		node, put := c.where[tote]
		if !put {
			node = -1
		}
		if got := m.Where(tote); got != node {
			t.Fatalf("%v: tote %d at %d, not %d", o, tote, got, node)
		}
		if other, twice := full[node]; put && twice {
			t.Fatalf("%v: totes %d and %d at %d", o, tote, other, node)
		}
		if put && m.At(node) != tote {
			t.Fatalf("%v: At(%d): %d, not %d", o, node, m.At(node), tote)
		}
		full[node] = tote
	}
	moves := map[int]int{}
	for dev := 1; dev <= len(c.edges); dev++ {
		tote, _, is := m.Told(dev)
		if !is {
			continue
		}
		from, to := c.edges[dev-1][0], c.edges[dev-1][1]
		if other, twice := moves[tote]; twice {
			t.Fatalf("%v: devices %d and %d move %d", o, dev, other, tote)
		}
		if other, twice := full[to]; twice {
			t.Fatalf("%v: device %d moves to %d, where %d is, or comes", o, dev, to, other)
		}
		if c.where[tote] != from || !m.Taken(to) {
			t.Fatalf("%v: device %d moves %d, which is at %d", o, dev, tote, c.where[tote])
		}
		moves[tote], full[to] = dev, tote
	}
}

func TestP17_2_OneToteANode(t *testing.T) {
	for at, l := range layouts() {
		c := &census{l.Edges, map[int]int{}}
		chanceRun(t, l, 3000, 2000+at, func(d *double, o op) {
			e := o.onMirror(d.m)
			o.onWords(d.w)
			c.check(t, d.m, o, e)
		})
		if len(c.where) < min(25, len(l.Nodes)) {
			t.Errorf("%d nodes: %d totes", len(l.Nodes), len(c.where))
		}
	}
}

// TestP17_2_WhoeverComes has each call of a small layout made by chance, as it comes, by notes too.
func TestP17_2_WhoeverComes(t *testing.T) {
	for at, l := range []api.Layout{ring(2), ring(3), fork(), kinds()} {
		every := everyOp(l)
		rnd := rand.New(rand.NewSource(int64(170 + at)))
		for range 20 {
			m, c := newMirror(t, l), &census{l.Edges, map[int]int{}}
			for range 300 {
				o := every[rnd.Intn(len(every))]
				if rnd.Intn(2) == 0 {
					c.check(t, m, o, m.Apply(o.note()))
				} else {
					c.check(t, m, o, o.onMirror(m))
				}
			}
		}
	}
}

// chanceNotes are notes as they come by chance, some of other kinds among them.
func chanceNotes(l api.Layout, many, seed int) []api.Note {
	rnd := rand.New(rand.NewSource(int64(seed)))
	w := newWords(l)
	var notes []api.Note
	for range many {
		o := chanceOp(rnd, w)
		n := o.note()
		if rnd.Intn(10) == 0 {
			n.Kind = []int{0, 2, 3, 6, 9, -1}[rnd.Intn(6)]
		} else {
			o.onWords(w)
		}
		notes = append(notes, n)
	}
	return notes
}

func TestP17_3_TheSameNotes(t *testing.T) {
	for at, l := range layouts() {
		notes := chanceNotes(l, 1500, 3000+at)
		a, b := newMirror(t, l), newMirror(t, l)
		for _, n := range notes {
			if x, y := a.Apply(n), b.Apply(n); x != y {
				t.Fatalf("Apply(%v): %d and %d", n, x, y)
			}
			if x, y := lookAt(a), lookAt(b); x != y {
				t.Fatalf("Apply(%v): %v and %v", n, x, y)
			}
		}
	}
}

// TestP17_3_TheNotesThatWereTaken: a mirror of those alone that were answered with OK is the same, wherever it begins.
func TestP17_3_TheNotesThatWereTaken(t *testing.T) {
	for at, l := range layouts() {
		m := newMirror(t, l)
		var taken []api.Note
		for i, n := range chanceNotes(l, 900, 4000+at) {
			if m.Apply(n) == api.OK {
				taken = append(taken, n)
			}
			if i%30 > 0 {
				continue
			}
			again := newMirror(t, l)
			for _, n := range taken {
				if e := again.Apply(n); e != api.OK {
					t.Fatalf("Apply(%v): %d", n, e)
				}
			}
			if x, y := lookAt(m), lookAt(again); x != y {
				t.Fatalf("%v, and %v by the notes that were taken", x, y)
			}
		}
		if len(taken) < 30 && len(l.Edges) > 0 {
			t.Errorf("%v: %d were taken", l.Edges, len(taken))
		}
	}
}

// TestP17_3_NotesAndCalls: a mirror to which notes are applied is as one that is called.
func TestP17_3_NotesAndCalls(t *testing.T) {
	for at, l := range layouts() {
		rnd := rand.New(rand.NewSource(int64(5000 + at)))
		chanceRun(t, l, 1000, 5000+at, func(d *double, o op) {
			d.call(o)
			// Both were called, and were told by notes; now the one goes on as the other one.
			if rnd.Intn(3) == 0 {
				d.m, d.notes = d.notes, d.m
			}
		})
	}
}

// overlap tells whether two lists share memory, spare room too.
func overlap[A, B any](a []A, b []B) bool {
	if cap(a) == 0 || cap(b) == 0 {
		return false
	}
	var one A
	var other B
	x, y := uintptr(unsafe.Pointer(unsafe.SliceData(a))), uintptr(unsafe.Pointer(unsafe.SliceData(b)))
	return x < y+uintptr(cap(b))*unsafe.Sizeof(other) && y < x+uintptr(cap(a))*unsafe.Sizeof(one)
}

// scribble writes over a list, spare room too.
func scribble[T any](list []T, with T) {
	room := list[:cap(list)]
	for i := range room {
		room[i] = with
	}
}

// roomy is a layout with room behind its lists, in which something stands.
func roomy(l api.Layout) api.Layout {
	n := append(slices.Clone(l.Nodes), api.Node{Name: "x", Kind: 1}, api.Node{Name: "y", Kind: 2})
	e := append(slices.Clone(l.Edges), [2]int{77, 78}, [2]int{79, 80})
	return api.Layout{Nodes: n[:len(l.Nodes)], Edges: e[:len(l.Edges)]}
}

func TestP17_4_TheLayoutStays(t *testing.T) {
	for at, l := range layouts() {
		given := roomy(l)
		n, e := slices.Clone(given.Nodes[:cap(given.Nodes)]), slices.Clone(given.Edges[:cap(given.Edges)])
		chanceRun(t, given, 700, 6000+at, func(d *double, o op) {
			d.call(o)
			if !slices.Equal(given.Nodes[:cap(given.Nodes)], n) || !slices.Equal(given.Edges[:cap(given.Edges)], e) {
				t.Fatalf("%v: the layout became %v", o, given)
			}
		})
	}
	for _, l := range noLayouts() {
		given := roomy(l)
		n, e := slices.Clone(given.Nodes[:cap(given.Nodes)]), slices.Clone(given.Edges[:cap(given.Edges)])
		New(given)
		if !slices.Equal(given.Nodes[:cap(given.Nodes)], n) || !slices.Equal(given.Edges[:cap(given.Edges)], e) {
			t.Fatalf("the layout became %v", given)
		}
	}
}

// TestP17_4_TheLayoutIsNotKept changes it behind New; the mirror answers as before.
func TestP17_4_TheLayoutIsNotKept(t *testing.T) {
	for at, l := range layouts() {
		given := roomy(l)
		d := newDouble(t, given)
		rnd := rand.New(rand.NewSource(int64(7000 + at)))
		scribble(given.Nodes, api.Node{Name: "?", Kind: -1, Zone: 99})
		scribble(given.Edges, [2]int{1000, -1000})
		for range 700 {
			d.call(chanceOp(rnd, d.w))
		}
	}
	l := ring(3)
	d := newDouble(t, l)
	d.does(putOp(5, 0), sendOp(1, 5, 9))
	l.Edges[0], l.Edges[1] = [2]int{0, 2}, [2]int{2, 1}
	d.free(2)
	d.does(movedOp(1, 5))
	d.at(5, 1)
	d.does(sendOp(2, 5, 1), movedOp(2, 5))
	d.at(5, 2)
}

// TestP17_4_AnswersAreNewMemory writes over what Down told, and holds the mirror behind it against the words.
func TestP17_4_AnswersAreNewMemory(t *testing.T) {
	for at, l := range layouts() {
		given := roomy(l)
		long := 0
		chanceRun(t, given, 700, 8000+at, func(d *double, o op) {
			d.call(o)
			a, b := d.m.Down(), d.m.Down()
			if overlap(a, b) || overlap(a, given.Edges) || overlap(a, given.Nodes) || overlap(a, d.m.totes) || overlap(a, d.m.devices) {
				t.Fatalf("Down: %v shares its memory", a)
			}
			long = max(long, len(a))
			scribble(a, 12345)
			d.same()
			scribble(b, -1)
			_ = append(a, 3, 4, 5)
			d.same()
		})
		if long == 0 && len(l.Edges) > 0 {
			t.Errorf("%v: none was ever down", l.Edges)
		}
	}
}

// TestP17_4_AnswersStayAsTheyWere keeps answers, and looks whether later calls change them.
func TestP17_4_AnswersStayAsTheyWere(t *testing.T) {
	for at, l := range layouts() {
		var lists, were [][]int
		chanceRun(t, l, 500, 9000+at, func(d *double, o op) {
			list := d.m.Down()
			lists, were = append(lists, list), append(were, slices.Clone(list))
			d.call(o)
		})
		for i := range lists {
			if !slices.Equal(lists[i], were[i]) {
				t.Fatalf("Down: %v became %v", were[i], lists[i])
			}
		}
	}
}

func TestP7_TwoMirrorsShareNothing(t *testing.T) {
	for at, l := range layouts() {
		rnd := rand.New(rand.NewSource(int64(10000 + at)))
		a, b := newDouble(t, l), newDouble(t, l)
		for range 400 {
			a.call(chanceOp(rnd, a.w))
			b.call(chanceOp(rnd, b.w))
			a.same()
		}
	}
}

// TestP7_AskingChangesNothing has two mirrors, and asks the one alone between the calls.
func TestP7_AskingChangesNothing(t *testing.T) {
	for at, l := range layouts() {
		quiet := newMirror(t, l)
		chanceRun(t, l, 700, 11000+at, func(d *double, o op) {
			d.same()
			if got, want := o.onMirror(quiet), d.call(o); got != want {
				t.Fatalf("%v: %d, and %d where nothing was asked", o, want, got)
			}
		})
	}
}

func TestP6_NoCallPanics(t *testing.T) {
	for _, l := range append(layouts(), noLayouts()...) {
		m, e := New(l)
		if e != api.OK {
			continue
		}
		for _, a := range anySize() {
			for _, b := range anySize() {
				m.Put(a, b)
				m.Moved(a, b)
				for _, c := range []int{0, -1, 65535, math.MinInt, math.MaxInt} {
					m.Send(a, b, c)
				}
				for kind := -1; kind < 10; kind++ {
					m.Apply(api.Note{Kind: kind, A: a, B: b, C: a})
				}
			}
			m.Drop(a)
			m.Mask(a, a%2 == 0)
			m.Where(a)
			m.At(a)
			m.Taken(a)
			m.Told(a)
			m.Last(a)
			m.Down()
		}
	}
}
