package control

import (
	"bytes"
	"slices"
	"testing"
	"unsafe"

	"stillage/api"
)

// overlap tells whether two lists share memory, spare room too.
func overlap[A, B any](a []A, b []B) bool {
	if cap(a) == 0 || cap(b) == 0 {
		return false
	}
	var one A
	var other B
	x, y := uintptr(unsafe.Pointer(unsafe.SliceData(a))), uintptr(unsafe.Pointer(unsafe.SliceData(b)))
	return x < y+uintptr(cap(b))*unsafe.Sizeof(other) && y < x+uintptr(cap(a))*unsafe.Sizeof(one)
}

// scribble writes over a list, spare room too.
func scribble[T any](list []T, with T) {
	room := list[:cap(list)]
	for i := range room {
		room[i] = with
	}
}

// roomy is a layout with room behind its lists, in which something stands, and with names that can be written over.
func roomy(l api.Layout) (api.Layout, []byte) {
	n := append(slices.Clone(l.Nodes), api.Node{Name: "x", Kind: 1}, api.Node{Name: "y", Kind: 2})
	e := append(slices.Clone(l.Edges), [2]int{77, 78}, [2]int{79, 80})
	names := make([]byte, 0, 8*len(n))
	for i := range n {
		from := len(names)
		names = append(names, n[i].Name...)
		n[i].Name = unsafe.String(&names[:cap(names)][from], len(names)-from)
	}
	return api.Layout{Nodes: n[:len(l.Nodes)], Edges: e[:len(l.Edges)]}, names
}

// stays is a check that a layout is as it was when it was handed to this, spare room too.
func stays(t *testing.T, given api.Layout) func() {
	n, e := slices.Clone(given.Nodes[:cap(given.Nodes)]), slices.Clone(given.Edges[:cap(given.Edges)])
	return func() {
		t.Helper()
		if !slices.Equal(given.Nodes[:cap(given.Nodes)], n) || !slices.Equal(given.Edges[:cap(given.Edges)], e) {
			t.Fatalf("the layout became %v", given)
		}
	}
}

func TestP21_5_TheLayoutStays(t *testing.T) {
	for at, l := range layouts() {
		given, names := roomy(l)
		check, was := stays(t, given), slices.Clone(names)
		chanceRun(t, given, 300, 4000+at, func(d *double, o op) {
			d.call(o)
			check()
			own := d.c.layout
			if overlap(own.Nodes, given.Nodes) || overlap(own.Edges, given.Edges) || !bytes.Equal(names, was) {
				t.Fatal("the controller shares the layout's memory")
			}
			for _, n := range own.Nodes {
				if o.name != "Open" && overlap(unsafe.Slice(unsafe.StringData(n.Name), len(n.Name)), names) {
					t.Fatalf("the controller keeps the name %s", n.Name)
				}
			}
		})
	}
	for _, l := range noLayouts() {
		given := api.Layout{Nodes: append(slices.Clone(l.Nodes), api.Node{Name: "x"})[:len(l.Nodes)], Edges: append(slices.Clone(l.Edges), [2]int{7, 8})[:len(l.Edges)]}
		check := stays(t, given)
		Open(given, 3, taped(t))
		check()
	}
}

// TestP21_5_TheLayoutIsNotKept writes over it behind Open; the controller answers as before.
func TestP21_5_TheLayoutIsNotKept(t *testing.T) {
	for at, l := range layouts() {
		for run := range 3 {
			given, names := roomy(l)
			d := newDouble(t, given, 2)
			r := newChance(l, 4500+10*at+run)
			scribble(given.Nodes, api.Node{Name: "?", Kind: -1, Zone: 99})
			scribble(given.Edges, [2]int{1000, -1000})
			scribble(names, '?')
			for range 250 {
				d.call(r.op(d.w))
			}
		}
	}
	l := star()
	d := newDouble(t, l, 3)
	d.does(putOp(5, 1), orderOp(1, 4, 5))
	l.Edges[0], l.Edges[7] = [2]int{0, 2}, [2]int{0, 5}
	l.Nodes[4].Kind, l.Nodes[5].Kind = api.NSlot, api.NTrack
	d.moves(1, 0, 5)
	d.moves(8, 0, 5)
	d.fails(api.ErrRange, orderOp(2, 3, 5))
	d.call(tickOp())
	d.served(4, 1)
}

// TestP21_5_TheBytesStayAndAreNotKept: of each telegram that is heard, and of what is none; room behind them too.
func TestP21_5_TheBytesStayAndAreNotKept(t *testing.T) {
	for at, l := range layouts() {
		chanceRun(t, l, 300, 5000+at, func(d *double, o op) {
			if o.name != "Hear" {
				d.call(o)
				return
			}
			room := append(slices.Clone(o.data), 1, 2, 3, 0xA5, 5, 6, 7, 8, 9, 10, 11, 12, 13)
			was := slices.Clone(room[:cap(room)])
			o.data = room[:len(o.data)]
			d.call(o)
			if !bytes.Equal(room[:cap(room)], was) {
				t.Fatalf("the bytes became %v, were %v", room, was)
			}
			scribble(room, 0xA5)
			d.said[len(d.said)-1].data = nil
			d.same()
		})
	}
}

// TestP21_5_TheRequestIsNotKept: what is done to it, and to an answer that has it, changes no answer.
func TestP21_5_TheRequestIsNotKept(t *testing.T) {
	d := newDouble(t, star(), 3)
	d.does(putOp(5, 1), putOp(6, 2))
	r := api.Request{ID: 1, Station: 4, Tote: 5}
	d.does(op{name: "Order", r: r})
	r.ID, r.Station, r.Tote = 2, 5, 6
	d.same()
	open := d.c.Requests()
	open[0] = r
	d.same()
	d.does(op{name: "Order", r: r})
	d.same()
}

// answers are all lists that a controller answers by now, as lists of their memory.
func answers(c *Control, l api.Layout) (ints [][]int, requests [][]api.Request) {
	for tote := -1; tote <= 31; tote++ {
		ints = append(ints, c.Path(tote))
	}
	for node := -1; node <= len(l.Nodes); node++ {
		ints = append(ints, c.Served(node))
	}
	return append(ints, c.Down()), [][]api.Request{c.Requests()}
}

// TestP21_5_AnswersAreNewMemory: no two of them share any, nor with what is kept; written over, spare room too, they change nothing.
func TestP21_5_AnswersAreNewMemory(t *testing.T) {
	for at, l := range layouts() {
		chanceRun(t, l, 250, 6000+at, func(d *double, o op) {
			if o.name == "Tick" {
				d.ticksOver(o)
			} else {
				d.call(o)
			}
			a, ra := answers(d.c, l)
			b, rb := answers(d.c, l)
			all := append(a, b...)
			for i, x := range all {
				for _, y := range all[:i] {
					if overlap(x, y) {
						t.Fatalf("behind %v two answers share memory", o)
					}
				}
				for _, path := range d.c.jobs {
					if overlap(x, path) {
						t.Fatalf("behind %v an answer shares memory with a job", o)
					}
				}
			}
			if overlap(ra[0], rb[0]) {
				t.Fatalf("behind %v two answers share memory", o)
			}
			for _, x := range all {
				scribble(x, -77)
			}
			scribble(ra[0], api.Request{ID: 77, Station: 77, Tote: 77})
			scribble(rb[0], api.Request{ID: 78, Station: 78, Tote: 78})
			d.same()
		})
	}
}

// ticksOver makes a tick, and writes over its telegrams.
func (d *double) ticksOver(o op) {
	d.t.Helper()
	l, e := d.c.Tick()
	want := o.onWords(&d.w)
	if e != want.e || len(l) != len(want.teles) {
		d.t.Fatalf("Tick: %v, %d, want %v", l, e, want)
	}
	for i, b := range l {
		if !bytes.Equal(b, bytesOf(want.teles[i])) {
			d.t.Fatalf("Tick: %v, want %v", b, want.teles[i])
		}
		for _, other := range l[:i] {
			if overlap(b, other) {
				d.t.Fatal("two telegrams share memory")
			}
		}
	}
	for _, b := range l {
		scribble(b, 0xEE)
	}
	scribble(l, nil)
	d.same()
}

// TestP21_5_AnswersStayAsTheyWere: whatever is called behind them.
func TestP21_5_AnswersStayAsTheyWere(t *testing.T) {
	for at, l := range layouts() {
		var got, was [][]int
		var teles, teleWas [][]byte
		chanceRun(t, l, 200, 6500+at, func(d *double, o op) {
			if o.name == "Tick" {
				list, _ := d.c.Tick()
				o.onWords(&d.w)
				for _, b := range list {
					teles, teleWas = append(teles, b), append(teleWas, slices.Clone(b))
				}
			} else {
				d.call(o)
			}
			ints, _ := answers(d.c, l)
			for _, x := range ints {
				got, was = append(got, x), append(was, slices.Clone(x))
			}
		})
		for i := range got {
			if !slices.Equal(got[i], was[i]) {
				t.Fatalf("an answer became %v, was %v", got[i], was[i])
			}
		}
		for i := range teles {
			if !bytes.Equal(teles[i], teleWas[i]) {
				t.Fatalf("a telegram became %v, was %v", teles[i], teleWas[i])
			}
		}
	}
}
