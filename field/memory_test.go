package field

import (
	"bytes"
	"slices"
	"testing"
	"unsafe"

	"stillage/api"
)

// overlap tells whether two lists share memory, spare room too.
func overlap[A, B any](a []A, b []B) bool {
	if cap(a) == 0 || cap(b) == 0 {
		return false
	}
	var one A
	var other B
	x, y := uintptr(unsafe.Pointer(unsafe.SliceData(a))), uintptr(unsafe.Pointer(unsafe.SliceData(b)))
	return x < y+uintptr(cap(b))*unsafe.Sizeof(other) && y < x+uintptr(cap(a))*unsafe.Sizeof(one)
}

// scribble writes over a list, spare room too.
func scribble[T any](list []T, with T) {
	room := list[:cap(list)]
	for i := range room {
		room[i] = with
	}
}

// roomy is a layout with room behind its lists, in which something stands, and with names that can be written over.
func roomy(l api.Layout) (api.Layout, []byte) {
	n := append(slices.Clone(l.Nodes), api.Node{Name: "x", Kind: 1}, api.Node{Name: "y", Kind: 2})
	e := append(slices.Clone(l.Edges), [2]int{77, 78}, [2]int{79, 80})
	names := make([]byte, 0, 8*len(n))
	for i := range n {
		from := len(names)
		names = append(names, n[i].Name...)
		n[i].Name = unsafe.String(&names[:cap(names)][from], len(names)-from)
	}
	return api.Layout{Nodes: n[:len(l.Nodes)], Edges: e[:len(l.Edges)]}, names
}

// stays is a check that a layout and totes are as they were when they were handed to this, spare room too.
func stays(t *testing.T, given api.Layout, names []byte, totes [][2]int) func() {
	n, e := slices.Clone(given.Nodes[:cap(given.Nodes)]), slices.Clone(given.Edges[:cap(given.Edges)])
	for i := range n {
		n[i].Name = string([]byte(n[i].Name))
	}
	wasNames, wasTotes := slices.Clone(names), slices.Clone(totes[:cap(totes)])
	return func() {
		t.Helper()
		if !slices.Equal(given.Nodes[:cap(given.Nodes)], n) || !slices.Equal(given.Edges[:cap(given.Edges)], e) || !bytes.Equal(names, wasNames) {
			t.Fatalf("the layout became %v", given)
		}
		if !slices.Equal(totes[:cap(totes)], wasTotes) {
			t.Fatalf("the totes became %v, were %v", totes[:cap(totes)], wasTotes)
		}
	}
}

// keptIn are the lists of a field's own memory.
func keptIn(f *Field) ([]api.Node, [][2]int, [][]byte) {
	return f.layout.Nodes, f.layout.Edges, append(slices.Clone(f.down), f.up...)
}

func TestP22_6_WhatIsHandedInStays(t *testing.T) {
	for at, l := range layouts() {
		given, names := roomy(l)
		totes := someTotes(l, newChance(l, nil, nil, at).Rand)
		totes = append(slices.Clone(totes), [2]int{77, 77}, [2]int{88, 88})[:len(totes)]
		check := stays(t, given, names, totes)
		f, e := New(given, 2, totes)
		if e != api.OK {
			t.Fatalf("New: %d", e)
		}
		check()
		r := newChance(l, slices.Clone(totes), f, 1+at)
		for i := range 300 {
			a := r.act()
			room := append(slices.Clone(a.Data), 1, 2, 3, 0xA5, 5, 6, 7, 8, 9, 10, 11, 12, 13)
			was := slices.Clone(room[:cap(room)])
			a.Data = room[:len(a.Data)]
			f.Do(a)
			if i%10 == 0 {
				f.Settle(i % 5)
			}
			check()
			if !bytes.Equal(room[:cap(room)], was) {
				t.Fatalf("%s: the bytes became %v", show(a), room)
			}
			nodes, edges, teles := keptIn(f)
			if overlap(nodes, given.Nodes) || overlap(edges, given.Edges) || slices.ContainsFunc(teles, func(b []byte) bool { return overlap(b, room) }) {
				t.Fatalf("%s: the field shares memory with what was handed in", show(a))
			}
			for _, n := range nodes {
				if overlap(unsafe.Slice(unsafe.StringData(n.Name), len(n.Name)), names) {
					t.Fatalf("the field keeps the name %s", n.Name)
				}
			}
		}
	}
	for _, l := range noLayouts() {
		given := api.Layout{Nodes: append(slices.Clone(l.Nodes), api.Node{Name: "x"})[:len(l.Nodes)], Edges: append(slices.Clone(l.Edges), [2]int{7, 8})[:len(l.Edges)]}
		totes := append([][2]int{{5, 1}}, [2]int{6, 2})[:1]
		check := stays(t, given, nil, totes)
		New(given, 3, totes)
		check()
	}
	totes := append([][2]int{{5, 1}, {6, 1}}, [2]int{7, 3})[:2]
	check := stays(t, star(), nil, totes)
	refuses(t, api.ErrHeld, star(), 3, totes...)
	check()
}

// TestP22_6_WhatIsHandedInIsNotKept writes over it; the field answers as before, and is opened anew as before.
func TestP22_6_WhatIsHandedInIsNotKept(t *testing.T) {
	for at, l := range layouts() {
		for run := range 5 {
			given, names := roomy(l)
			totes := someTotes(l, newChance(l, nil, nil, 10*at+run).Rand)
			handed := slices.Clone(totes)
			d := &double{t: t}
			d.f, _ = New(given, 2, handed)
			d.w, _ = newWords(l, 2, totes)
			scribble(given.Nodes, api.Node{Name: "?", Kind: -1, Zone: 99})
			scribble(given.Edges, [2]int{1000, -1000})
			scribble(names, '?')
			scribble(handed, [2]int{-5, 99})
			r := newChance(l, totes, d.f, run)
			for i := range 200 {
				a := r.act()
				if i%20 == 0 {
					a = act(Crash)
				}
				own := slices.Clone(a.Data)
				a.Data = slices.Clone(a.Data)
				want, e := d.w.do(Act{a.Kind, a.N, a.Request, own}), d.f.Do(a)
				scribble(a.Data, 0xEE)
				if e != want {
					t.Fatalf("%s: %d, want %d", show(Act{Kind: a.Kind, N: a.N, Request: a.Request, Data: own}), e, want)
				}
				d.same()
				if i%30 == 0 {
					d.settle(3)
				}
			}
		}
	}
}

// TestP22_6_TheRequestIsNotKept: what is done to it, and to an answer that has it, changes no answer.
func TestP22_6_TheRequestIsNotKept(t *testing.T) {
	d := newDouble(t, star(), 3, [2]int{5, 1}, [2]int{6, 2})
	a := order(1, 4, 5)
	d.does(a)
	a.Request = api.Request{ID: 2, Station: 5, Tote: 6}
	d.same()
	d.f.Requests()[0] = a.Request
	d.same()
	d.does(a)
	d.does(act(Crash))
	d.settle(20)
	d.served(4, 1)
	d.served(5, 2)
}

// answers are all lists that a field answers by now.
func answers(f *Field, l api.Layout) (ints [][]int, requests []api.Request) {
	for tote := 1; tote <= 30; tote++ {
		ints = append(ints, f.Path(tote))
	}
	for node := range l.Nodes {
		ints = append(ints, f.Served(node))
	}
	return ints, f.Requests()
}

// TestP22_6_AnswersAreNewMemory: no two of them share any; written over, spare room too, they change nothing.
func TestP22_6_AnswersAreNewMemory(t *testing.T) {
	lists := 0
	for at, l := range layouts() {
		chanceRun(t, l, 200, 6000+at, func(d *double, _ *judge, a Act, _ api.Errno) {
			x, requests := answers(d.f, l)
			y, more := answers(d.f, l)
			all := append(x, y...)
			for i, one := range all {
				lists += min(1, len(one))
				for _, other := range all[:i] {
					if overlap(one, other) {
						t.Fatalf("behind %s two answers share memory", show(a))
					}
				}
			}
			if overlap(requests, more) {
				t.Fatalf("behind %s two answers share memory", show(a))
			}
			for _, one := range all {
				scribble(one, -77)
			}
			scribble(requests, api.Request{ID: 77, Station: 77, Tote: 77})
			scribble(more, api.Request{ID: 78, Station: 78, Tote: 78})
			d.same()
		})
	}
	if lists < 1000 {
		t.Errorf("%d lists", lists)
	}
}

// TestP22_6_AnswersStayAsTheyWere: whatever is done behind them.
func TestP22_6_AnswersStayAsTheyWere(t *testing.T) {
	for at, l := range layouts() {
		var got, was [][]int
		var open, wasOpen [][]api.Request
		d, _ := chanceRun(t, l, 200, 6500+at, func(d *double, _ *judge, a Act, _ api.Errno) {
			ints, requests := answers(d.f, l)
			for _, one := range ints {
				got, was = append(got, one), append(was, slices.Clone(one))
			}
			open, wasOpen = append(open, requests), append(wasOpen, slices.Clone(requests))
		})
		d.f.Do(act(Crash))
		d.f.Settle(20)
		for i := range got {
			if !slices.Equal(got[i], was[i]) {
				t.Fatalf("an answer became %v, was %v", got[i], was[i])
			}
		}
		for i := range open {
			if !slices.Equal(open[i], wasOpen[i]) {
				t.Fatalf("an answer became %v, was %v", open[i], wasOpen[i])
			}
		}
	}
}
