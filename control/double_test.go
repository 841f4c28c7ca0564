package control

import (
	"fmt"
	"math"
	"slices"
	"strings"
	"testing"

	"stillage/api"
	"stillage/layout"
	"stillage/tape"
	"stillage/tele"
)

// request is one that was accepted, and how it is with it: open 1, served 2, cancelled 3.
type request struct {
	api.Request
	state int
}

// facts are what a list of notes says, by the words of the chapters on book and mirror, and apart from these.
type facts struct {
	nodes    int
	edges    [][2]int
	where    map[int]int    // tote: node
	told     map[int][2]int // device: tote and Seq, if it was told something and hasn't confirmed it
	last     map[int]int    // device: the Seq that it was told last of all
	down     map[int]bool
	requests []*request // as they came
	served   []int      // IDs, as they were served
}

func newFacts(l api.Layout) *facts {
	return &facts{nodes: len(l.Nodes), edges: slices.Clone(l.Edges), where: map[int]int{}, told: map[int][2]int{}, last: map[int]int{}, down: map[int]bool{}}
}

// factsOf are those of a list of notes, or the first error.
func factsOf(l api.Layout, notes []api.Note) (*facts, api.Errno) {
	f := newFacts(l)
	for _, n := range notes {
		if e := f.take(n); e != api.OK {
			return nil, e
		}
	}
	return f, api.OK
}

func (f *facts) noTote(n int) bool   { return n < 1 || n > 30 }
func (f *facts) noDevice(n int) bool { return n < 1 || n > len(f.edges) }

func (f *facts) taken(node int) bool {
	for _, at := range f.where {
		if at == node {
			return true
		}
	}
	for dev := range f.told {
		if f.edges[dev-1][1] == node {
			return true
		}
	}
	return false
}

// moving tells whether a device was told to move a tote.
func (f *facts) moving(tote int) bool {
	for _, what := range f.told {
		if what[0] == tote {
			return true
		}
	}
	return false
}

func (f *facts) find(id int) *request {
	for _, r := range f.requests {
		if r.ID == id {
			return r
		}
	}
	return nil
}

// open are the open requests, in order.
func (f *facts) open() []api.Request {
	var l []api.Request
	for _, r := range f.requests {
		if r.state == 1 {
			l = append(l, r.Request)
		}
	}
	return l
}

// isFirst tells whether no open request of the same station came ahead of an open one.
func (f *facts) isFirst(r api.Request) bool {
	for _, o := range f.open() {
		if o.Station == r.Station {
			return o.ID == r.ID
		}
	}
	return false
}

// take does a note, or tells why it can't be done.
func (f *facts) take(n api.Note) api.Errno {
	switch n.Kind {
	case 1:
		return f.takePut(n.A, n.B)
	case 2:
		return f.takeOrder(api.Request{ID: n.A, Station: n.B, Tote: n.C})
	case 3, 6:
		return f.takeEnd(n.A, n.Kind == 6)
	case 4:
		return f.takeSend(n.A, n.B, n.C)
	case 5, 7:
		return f.takeAnswer(n)
	case 8:
		if f.noDevice(n.A) {
			return api.ErrRange
		}
		f.down[n.A] = n.B == 1
		return api.OK
	}
	return api.ErrKind
}

func (f *facts) takePut(tote, node int) api.Errno {
	_, is := f.where[tote]
	switch {
	case f.noTote(tote) || node < 0 || node >= f.nodes:
		return api.ErrRange
	case is:
		return api.ErrTwice
	case f.taken(node):
		return api.ErrHeld
	}
	f.where[tote] = node
	return api.OK
}

// takeOrder refuses what was said already, too.
func (f *facts) takeOrder(r api.Request) api.Errno {
	switch {
	case r.Station < 0 || r.Station > 39 || f.noTote(r.Tote):
		return api.ErrRange
	case f.find(r.ID) != nil:
		return api.ErrTwice
	case slices.ContainsFunc(f.open(), func(o api.Request) bool { return o.Tote == r.Tote }):
		return api.ErrTote
	case len(f.open()) == 64:
		return api.ErrFull
	}
	f.requests = append(f.requests, &request{r, 1})
	return api.OK
}

// takeEnd refuses what was cancelled already, too.
func (f *facts) takeEnd(id int, served bool) api.Errno {
	r := f.find(id)
	switch {
	case r == nil:
		return api.ErrNone
	case r.state != 1:
		return api.ErrState
	case served && !f.isFirst(r.Request):
		return api.ErrBlocked
	}
	if r.state = 3; served {
		r.state = 2
		f.served = append(f.served, id)
	}
	return api.OK
}

func (f *facts) takeSend(dev, tote, seq int) api.Errno {
	if f.noDevice(dev) || f.noTote(tote) || seq < 0 || seq > 65535 {
		return api.ErrRange
	}
	_, told := f.told[dev]
	node, is := f.where[tote]
	switch edge := f.edges[dev-1]; {
	case told || f.down[dev]:
		return api.ErrState
	case !is || node != edge[0] || f.moving(tote):
		return api.ErrTote
	case f.taken(edge[1]):
		return api.ErrHeld
	}
	f.told[dev], f.last[dev] = [2]int{tote, seq}, seq
	return api.OK
}

// takeAnswer is a JMoved or a JDropped.
func (f *facts) takeAnswer(n api.Note) api.Errno {
	moved := n.Kind == 5
	what, told := f.told[n.A]
	switch {
	case f.noDevice(n.A) || moved && f.noTote(n.B):
		return api.ErrRange
	case !told:
		return api.ErrNone
	case moved && what[0] != n.B:
		return api.ErrTote
	}
	if delete(f.told, n.A); moved {
		f.where[n.B] = f.edges[n.A-1][1]
	}
	return api.OK
}

// kept tells all that mirror and book tell; of the IDs those that were ever accepted.
func (f *facts) kept() string {
	var s strings.Builder
	for tote := 1; tote <= 30; tote++ {
		if node, is := f.where[tote]; is {
			fmt.Fprint(&s, " tote ", tote, " at ", node)
		}
	}
	for dev := 1; dev <= len(f.edges); dev++ {
		if what, told := f.told[dev]; told {
			fmt.Fprint(&s, " device ", dev, " told ", what[0], " ", what[1])
		}
	}
	for dev := 1; dev <= len(f.edges); dev++ {
		if f.down[dev] {
			fmt.Fprint(&s, " down ", dev)
		}
	}
	for _, r := range f.open() {
		fmt.Fprint(&s, " open ", r)
	}
	for node := range 40 {
		for _, id := range f.served {
			if f.find(id).Station == node {
				fmt.Fprint(&s, " served at ", node, " ", id)
			}
		}
	}
	for _, id := range ids() {
		if r := f.find(id); r != nil {
			fmt.Fprint(&s, " ID ", id, " ", r.state)
		}
	}
	return s.String()
}

// ids are those that are asked for.
func ids() []int {
	l := []int{math.MinInt, 1<<31 - 1, 1 << 31, math.MaxInt}
	for id := -2; id < 70; id++ {
		l = append(l, id)
	}
	return l
}

// byWords follows the chapter's words apart from the program: with the notes' facts, and jobs by tote.
type byWords struct {
	*facts
	layout api.Layout
	pause  int
	notes  []api.Note // those that are on the tape
	jobs   map[int][]int
	ago    map[int]int // device: how many ticks ago it was told
}

func newWords(l api.Layout, pause int, notes []api.Note) *byWords {
	f, _ := factsOf(l, notes)
	kept := api.Layout{Nodes: slices.Clone(l.Nodes), Edges: slices.Clone(l.Edges)}
	return &byWords{f, kept, pause, slices.Clone(notes), map[int][]int{}, map[int]int{}}
}

func (w *byWords) note(kind, a, b, c int) api.Errno {
	n := api.Note{Kind: kind, A: a, B: b, C: c}
	e := w.take(n)
	if e == api.OK {
		w.notes = append(w.notes, n)
	}
	return e
}

// owner is the tote whose job's path comes to a node, or 0.
func (w *byWords) owner(node int) int {
	for tote, path := range w.jobs {
		for _, dev := range path {
			if w.edges[dev-1][1] == node {
				return tote
			}
		}
	}
	return 0
}

func (w *byWords) put(tote, node int) api.Errno {
	if w.owner(node) > 0 {
		return api.ErrHeld
	}
	return w.note(1, tote, node, 0)
}

func (w *byWords) order(r api.Request) (bool, api.Errno) {
	if r.ID < 0 || r.ID >= 1<<31 {
		return false, api.ErrRange
	}
	if was := w.find(r.ID); was != nil {
		switch {
		case r.Station < 0 || r.Station > 39 || w.noTote(r.Tote):
			return false, api.ErrRange
		case was.Request != r:
			return false, api.ErrTwice
		}
		return false, api.OK
	}
	node, is := w.where[r.Tote]
	switch {
	case r.Station < 0 || r.Station >= w.nodes || w.layout.Nodes[r.Station].Kind != 3:
		return false, api.ErrRange
	case !is:
		return false, api.ErrTote
	case node != r.Station && w.search(node, r.Station, nil, nil) == nil:
		return false, api.ErrTarget
	}
	e := w.note(2, r.ID, r.Station, r.Tote)
	return e == api.OK, e
}

func (w *byWords) cancel(id int) (bool, api.Errno) {
	r := w.find(id)
	switch {
	case r == nil:
		return false, api.ErrNone
	case r.state == 2:
		return false, api.ErrState
	case r.state == 3:
		return false, api.OK
	}
	w.note(3, id, 0, 0)
	return true, api.OK
}

func (w *byWords) hear(b []byte) api.Errno {
	t, e := tele.Decode(b)
	if e != api.OK {
		return e
	}
	dev, tote := int(t.Dev), int(t.A)
	what, told := w.told[dev]
	just := told && what == [2]int{tote, int(t.Seq)}
	switch {
	case w.noDevice(dev):
		return api.ErrRange
	case t.Kind == 1 || t.Kind > 5:
		return api.ErrKind
	case t.Kind < 4 && !just, t.Kind == 4 && w.down[dev], t.Kind == 5 && !w.down[dev]:
		return api.ErrFar
	}
	switch t.Kind {
	case 2:
		w.note(5, dev, tote, 0)
		w.jobs[tote] = w.jobs[tote][min(1, len(w.jobs[tote])):]
	case 3:
		w.note(7, dev, 0, 0)
		w.jobs[tote] = nil
	default:
		w.note(8, dev, int(5-t.Kind), 0)
	}
	if len(w.jobs[tote]) == 0 {
		delete(w.jobs, tote)
	}
	return api.OK
}

// search goes from a on, one edge farther each time: of the ways to a node the first one stays. It answers the devices of the first
// shortest way to b that comes to no full node but b; nil, if there is none.
func (w *byWords) search(a, b int, down map[int]bool, full map[int]bool) []int {
	came := map[int][]int{a: {}}
	ends := []int{a}
	for len(ends) > 0 {
		var next []int
		for _, end := range ends {
			for i, edge := range w.edges {
				_, was := came[edge[1]]
				if edge[0] != end || down[i+1] || was || full[edge[1]] && edge[1] != b {
					continue
				}
				came[edge[1]] = append(slices.Clone(came[end]), i+1)
				if edge[1] == b {
					return came[b]
				}
				if w.layout.Nodes[edge[1]].Kind == 1 {
					next = append(next, edge[1])
				}
			}
		}
		ends = next
	}
	return nil
}

func (w *byWords) rests(tote int) bool {
	_, is := w.where[tote]
	return is && len(w.jobs[tote]) == 0 && !w.moving(tote)
}

// around is the path of a tote that rests to a node that isn't full for it; nil, if it has none.
func (w *byWords) around(tote, node int) []int {
	full := map[int]bool{}
	for n := range w.nodes {
		owner := w.owner(n)
		full[n] = w.taken(n) && w.where[tote] != n || owner > 0 && owner != tote
	}
	if full[node] {
		return nil
	}
	return w.search(w.where[tote], node, w.down, full)
}

func (w *byWords) tick() []api.Tele {
	for w.serveOne() {
	}
	wanted := map[int]bool{}
	for _, r := range w.open() {
		if !w.isFirst(r) {
			continue
		}
		wanted[r.Tote] = true
		if w.rests(r.Tote) {
			w.give(r.Tote, w.around(r.Tote, r.Station))
		}
	}
	for tote := 1; tote <= 30; tote++ {
		if w.rests(tote) && !wanted[tote] && w.layout.Nodes[w.where[tote]].Kind != 2 {
			w.give(tote, w.toSlot(tote))
		}
	}
	var out []api.Tele
	told := w.tellAll()
	for dev := range w.edges {
		what, is := w.told[dev+1]
		if !is {
			continue
		}
		if !told[dev+1] {
			w.ago[dev+1]++
		}
		if told[dev+1] || w.ago[dev+1] == w.pause {
			w.ago[dev+1] = 0
			out = append(out, api.Tele{Kind: 1, Dev: uint16(dev + 1), Seq: uint16(what[1]), A: uint16(what[0])})
		}
	}
	return out
}

func (w *byWords) serveOne() bool {
	for _, r := range w.open() {
		if w.isFirst(r) && w.rests(r.Tote) && w.where[r.Tote] == r.Station {
			w.note(6, r.ID, 0, 0)
			return true
		}
	}
	return false
}

func (w *byWords) give(tote int, path []int) {
	if len(path) > 0 {
		w.jobs[tote] = path
	}
}

func (w *byWords) toSlot(tote int) []int {
	var all [][]int
	for node, n := range w.layout.Nodes {
		if path := w.around(tote, node); n.Kind == 2 && path != nil {
			all = append(all, path)
		}
	}
	slices.SortStableFunc(all, func(a, b []int) int { return len(a) - len(b) })
	return append(all, nil)[0]
}

// tellAll tells which devices were told something.
func (w *byWords) tellAll() map[int]bool {
	told := map[int]bool{}
	for tote := 1; tote <= 30; tote++ {
		path := w.jobs[tote]
		if len(path) == 0 || w.moving(tote) {
			continue
		}
		if w.down[path[0]] {
			delete(w.jobs, tote)
			continue
		}
		seq := 0
		if last, ever := w.last[path[0]]; ever {
			seq = (last + 1) % 65536
		}
		w.note(4, path[0], tote, seq)
		told[path[0]] = true
	}
	return told
}

// look is all that is told.
func (w *byWords) look() string {
	s := w.kept()
	for tote := 1; tote <= 30; tote++ {
		if len(w.jobs[tote]) > 0 {
			s += fmt.Sprint(" job ", tote, " ", w.jobs[tote])
		}
	}
	return s
}

// keptBy is what a controller's mirror and book tell, asked for numbers that are no tote, device or station, too.
func keptBy(c *Control) string {
	var s strings.Builder
	for tote := -1; tote <= 31; tote++ {
		if node := c.Where(tote); node != -1 {
			fmt.Fprint(&s, " tote ", tote, " at ", node)
		}
	}
	for dev := -1; dev <= 121; dev++ {
		if tote, seq, told := c.Told(dev); told || tote != 0 || seq != 0 {
			fmt.Fprint(&s, " device ", dev, " told ", tote, " ", seq)
		}
	}
	for _, dev := range c.Down() {
		fmt.Fprint(&s, " down ", dev)
	}
	for _, r := range c.Requests() {
		fmt.Fprint(&s, " open ", r)
	}
	for node := -1; node <= 40; node++ {
		for _, id := range c.Served(node) {
			fmt.Fprint(&s, " served at ", node, " ", id)
		}
	}
	for _, id := range ids() {
		if state := c.State(id); state != 0 {
			fmt.Fprint(&s, " ID ", id, " ", state)
		}
	}
	return s.String()
}

func lookAt(c *Control) string {
	s := keptBy(c)
	for tote := -1; tote <= 31; tote++ {
		if path := c.Path(tote); len(path) > 0 {
			s += fmt.Sprint(" job ", tote, " ", path)
		}
	}
	if c.Dead() {
		s += " dead"
	}
	return s
}

// op is a call that may change something. Open goes on with a controller that is opened with the tape's Crash.
type op struct {
	name string
	a, b int
	r    api.Request
	data []byte
}

func (o op) String() string {
	switch o.name {
	case "Order":
		return fmt.Sprint("Order", o.r)
	case "Hear":
		t, e := tele.Decode(o.data)
		return fmt.Sprint("Hear", t, int(e))
	}
	return fmt.Sprint(o.name, " ", o.a, " ", o.b)
}

func putOp(tote, node int) op { return op{name: "Put", a: tote, b: node} }
func orderOp(id, station, tote int) op {
	return op{name: "Order", r: api.Request{ID: id, Station: station, Tote: tote}}
}
func cancelOp(id int) op             { return op{name: "Cancel", a: id} }
func hearOp(b []byte) op             { return op{name: "Hear", data: b} }
func tickOp() op                     { return op{name: "Tick"} }
func openOp() op                     { return op{name: "Open"} }
func teleOp(t api.Tele) op           { return hearOp(bytesOf(t)) }
func doneOp(dev, seq, tote int) op   { return teleOp(answer(api.TDone, dev, seq, tote, 0)) }
func refuseOp(dev, seq, tote int) op { return teleOp(answer(api.TRefused, dev, seq, tote, 1)) }
func faultOp(dev int) op             { return teleOp(answer(api.TFault, dev, 0, 0, 0)) }
func repairOp(dev int) op            { return teleOp(answer(api.TRepair, dev, 0, 0, 0)) }

func answer(kind uint8, dev, seq, a, b int) api.Tele {
	return api.Tele{Kind: kind, Dev: uint16(dev), Seq: uint16(seq), A: uint16(a), B: uint16(b)}
}

// move is the telegram by which a device is told.
func move(dev, seq, tote int) api.Tele { return answer(api.TMove, dev, seq, tote, 0) }

func bytesOf(t api.Tele) []byte {
	b, e := tele.Encode(t)
	if e != api.OK {
		panic(fmt.Sprint(t, " is no telegram"))
	}
	return b
}

// result is what a call answers: of each its parts.
type result struct {
	yes   bool
	e     api.Errno
	teles []api.Tele
}

func (r result) same(o result) bool {
	return r.yes == o.yes && r.e == o.e && slices.Equal(r.teles, o.teles)
}

func (o op) onControl(t testing.TB, c **Control, p **tape.Tape) (r result) {
	t.Helper()
	switch o.name {
	case "Put":
		r.e = (*c).Put(o.a, o.b)
	case "Order":
		r.yes, r.e = (*c).Order(o.r)
	case "Cancel":
		r.yes, r.e = (*c).Cancel(o.a)
	case "Hear":
		r.e = (*c).Hear(o.data)
	case "Tick":
		var l [][]byte
		l, r.e = (*c).Tick()
		for _, b := range l {
			x, e := tele.Decode(b)
			if e != api.OK {
				t.Fatalf("Tick: %x: %d", b, e)
			}
			r.teles = append(r.teles, x)
		}
	case "Open":
		*p = (*p).Crash()
		*c, r.e = Open((*c).layout, (*c).pause, *p)
	}
	return r
}

func (o op) onWords(w **byWords) (r result) {
	switch o.name {
	case "Put":
		r.e = (*w).put(o.a, o.b)
	case "Order":
		r.yes, r.e = (*w).order(o.r)
	case "Cancel":
		r.yes, r.e = (*w).cancel(o.a)
	case "Hear":
		r.e = (*w).hear(o.data)
	case "Tick":
		r.teles = (*w).tick()
	case "Open":
		*w = newWords((*w).layout, (*w).pause, (*w).notes)
	}
	return r
}

// double is a controller and its double by words, which are held against each other behind each call, the tape's notes, too.
type double struct {
	t    testing.TB
	c    *Control
	p    *tape.Tape
	w    *byWords
	said []op
}

func taped(t testing.TB, notes ...api.Note) *tape.Tape {
	t.Helper()
	p := tape.New()
	if e := p.Append(notes); e != api.OK {
		t.Fatalf("Append of %v: %d", notes, e)
	}
	return p
}

// newDouble is one of a tape with these notes.
func newDouble(t testing.TB, l api.Layout, pause int, notes ...api.Note) *double {
	t.Helper()
	p := taped(t, notes...)
	c, e := Open(l, pause, p)
	if e != api.OK || c == nil {
		t.Fatalf("Open of %v, %d, %v: %d", l, pause, notes, e)
	}
	d := &double{t: t, c: c, p: p, w: newWords(l, pause, notes)}
	d.same()
	return d
}

func (d *double) same() {
	d.t.Helper()
	if got, want := lookAt(d.c), d.w.look(); got != want {
		d.t.Fatalf("behind %v:%s\nwant%s", d.said, got, want)
	}
	if got := d.p.Read(); !slices.Equal(got, d.w.notes) {
		d.t.Fatalf("behind %v: the tape has %v\nwant %v", d.said, got, d.w.notes)
	}
}

func (d *double) call(o op) result {
	d.t.Helper()
	d.said = append(d.said, o)
	got, want := o.onControl(d.t, &d.c, &d.p), o.onWords(&d.w)
	if !got.same(want) {
		d.t.Fatalf("%v: %v, want %v; behind %s", d.said, got, want, d.w.look())
	}
	d.same()
	return got
}

// does holds that calls are done: what is asked for is taken as new.
func (d *double) does(ops ...op) {
	d.t.Helper()
	for _, o := range ops {
		if r := d.call(o); r.e != api.OK || (o.name == "Order" || o.name == "Cancel") && !r.yes {
			d.t.Fatalf("%v: %v", d.said, r)
		}
	}
}

// fails holds that calls are answered by e, and change nothing.
func (d *double) fails(e api.Errno, ops ...op) {
	d.t.Helper()
	d.idle(result{e: e}, ops...)
}

// known holds that calls are answered by false and no error, and change nothing.
func (d *double) known(ops ...op) {
	d.t.Helper()
	d.idle(result{}, ops...)
}

func (d *double) idle(want result, ops ...op) {
	d.t.Helper()
	for _, o := range ops {
		before, size := lookAt(d.c), d.p.Size()
		if r := d.call(o); !r.same(want) {
			d.t.Fatalf("%v: %v, want %v", d.said, r, want)
		}
		if now := lookAt(d.c); now != before || d.p.Size() != size {
			d.t.Fatalf("%v: %s, was %s", d.said, now, before)
		}
	}
}

// ticks holds that a tick tells just these.
func (d *double) ticks(want ...api.Tele) {
	d.t.Helper()
	if r := d.call(tickOp()); !r.same(result{teles: want}) {
		d.t.Fatalf("behind %v: %v, want %v", d.said, r, want)
	}
}

// quiet holds that so many ticks tell nothing.
func (d *double) quiet(many int) {
	d.t.Helper()
	for range many {
		d.ticks()
	}
}

// moves has a tick tell just this, and the device do it.
func (d *double) moves(dev, seq, tote int) {
	d.t.Helper()
	d.ticks(move(dev, seq, tote))
	d.does(doneOp(dev, seq, tote))
}

func (d *double) path(tote int, want ...int) {
	d.t.Helper()
	if got := d.c.Path(tote); !slices.Equal(got, want) {
		d.t.Fatalf("behind %v: the path of %d is %v, want %v", d.said, tote, got, want)
	}
}

func (d *double) at(tote, node int) {
	d.t.Helper()
	if got := d.c.Where(tote); got != node {
		d.t.Fatalf("behind %v: %d is at %d, want %d", d.said, tote, got, node)
	}
}

func (d *double) served(station int, want ...int) {
	d.t.Helper()
	if got := d.c.Served(station); !slices.Equal(got, want) {
		d.t.Fatalf("behind %v: served at %d: %v, want %v", d.said, station, got, want)
	}
}

func (d *double) states(id, want int) {
	d.t.Helper()
	if got := d.c.State(id); got != want {
		d.t.Fatalf("behind %v: the state of %d is %d, want %d", d.said, id, got, want)
	}
}

// store is a layout made of words: nodes by their kind's letter and a number (t a track, s a slot, p a station, g a gate), edges as
// pairs of them: a>b is one edge, a=b are two, one each way, that from a to b first.
func store(nodes string, edges string) api.Layout {
	var l api.Layout
	for _, name := range strings.Fields(nodes) {
		l.Nodes = append(l.Nodes, api.Node{Name: name, Kind: 1 + strings.IndexByte("tspg", name[0])})
	}
	for _, pair := range strings.Fields(edges) {
		a, b, one := strings.Cut(pair, ">")
		if !one {
			a, b, _ = strings.Cut(pair, "=")
		}
		x, y := layout.Find(l, a), layout.Find(l, b)
		l.Edges = append(l.Edges, [2]int{x, y})
		if !one {
			l.Edges = append(l.Edges, [2]int{y, x})
		}
	}
	return l
}

// example is the chapter's: a track, a slot, a station; the device 1 from the slot, 2 to the station.
func example() api.Layout {
	return store("t0 s0 p0", "s0>t0 t0>p0")
}

// loop has a ring of six tracks (0 to 5, by the devices 1 to 6), and behind some of them a slot, a station, a gate.
func loop() api.Layout {
	return store("t0 t1 t2 t3 t4 t5 s0 s1 p0 p1 g0",
		"t0>t1 t1>t2 t2>t3 t3>t4 t4>t5 t5>t0 s0>t0 t0>s0 s1>t3 t3>s1 t1>p0 p0>t2 t4>p1 p1>t5 g0>t0")
}

// star has a track in the middle (0), three slots (1 to 3) and two stations (4, 5) about it: the device 2n-1 goes from the node n to
// the track, 2n back.
func star() api.Layout {
	return store("t0 s1 s2 s3 p4 p5", "s1=t0 s2=t0 s3=t0 p4=t0 p5=t0")
}

// ladder has two rows of tracks side by side, so that there are ways around, two slots and a station.
func ladder() api.Layout {
	return store("t0 t1 t2 t3 t4 t5 s0 s1 p0", "t0=t1 t1=t2 t3=t4 t4=t5 t0=t3 t1=t4 t2=t5 s0=t0 s1=t3 t2=p0 t5>p0")
}

// line is a single track between a slot and a station, each way.
func line() api.Layout {
	return store("s0 t0 p0", "s0=t0 t0=p0")
}

// ring is so many tracks, with a slot and a station behind the first ones.
func ring(many int) api.Layout {
	nodes, edges := "", ""
	for i := range many {
		nodes += fmt.Sprint("t", i, " ")
		edges += fmt.Sprint("t", i, ">t", (i+1)%many, " ")
	}
	return store(nodes+"s0 p0", edges+"s0=t0 t1=p0")
}

// wide has 40 nodes and 120 edges.
func wide() api.Layout {
	nodes, edges := "", ""
	for i := range 20 {
		nodes += fmt.Sprint("t", i, " ")
		for _, on := range []int{1, 19, 7, 3} {
			edges += fmt.Sprint("t", i, ">t", (i+on)%20, " ")
		}
	}
	for i := range 20 {
		name := string("sssspsssgspsssspsssp"[i]) + fmt.Sprint(i)
		nodes += name + " "
		edges += fmt.Sprint(name, "=t", i, " ")
	}
	return store(nodes, edges)
}

// layouts are some of all sizes.
func layouts() []api.Layout {
	return []api.Layout{
		example(), line(), star(), loop(), ladder(), ring(4), wide(),
		store("t0 t1 s0 s1 p0 p1 g0", "s0=t0 t0=p0 s1=t1 t1=p1 t1>t0 g0>t1"), // from the one half no way leads to the other
		store("p0", ""), store("s0 s1 t0", ""), store("t0 t1", "t0>t1"),
	}
}
