package control

import (
	"fmt"
	"math"
	"math/rand"
	"slices"
	"testing"

	"stillage/api"
	"stillage/tape"
	"stillage/tele"
)

// chooser is a call that is made up as the state is by then.
type chooser func(w *byWords) op

func just(o op) chooser { return func(*byWords) op { return o } }

// aDone and aRefused are what one of the devices that were told answers: the first one, or the last one.
func aDone(last bool) chooser {
	return func(w *byWords) op {
		dev, what := aTold(w, last)
		return doneOp(dev, what[1], what[0])
	}
}

func aRefused(last bool) chooser {
	return func(w *byWords) op {
		dev, what := aTold(w, last)
		return refuseOp(dev, what[1], what[0])
	}
}

func aTold(w *byWords, last bool) (int, [2]int) {
	for i := range w.edges {
		dev := i + 1
		if last {
			dev = len(w.edges) - i
		}
		if what, told := w.told[dev]; told {
			return dev, what
		}
	}
	return 1, [2]int{1, 0}
}

// everyList makes each list of so many calls, behind the calls ahead; the last one of each is looked at.
func everyList(t *testing.T, l api.Layout, pause int, ahead []op, choose []chooser, length int) {
	t.Helper()
	d := &double{t: t, w: newWords(l, pause, nil), p: tape.New(), said: slices.Clone(ahead)}
	d.c, _ = Open(l, pause, d.p)
	for i, o := range ahead {
		if i == len(ahead)-1 {
			d.said = d.said[:i]
			d.call(o)
			break
		}
		o.onControl(t, &d.c, &d.p)
		o.onWords(&d.w)
	}
	if length == 0 {
		return
	}
	for _, f := range choose {
		everyList(t, l, pause, append(ahead[:len(ahead):len(ahead)], f(d.w)), choose, length-1)
	}
}

func TestP21_1_EveryShortListOfCalls(t *testing.T) {
	choose := []chooser{
		just(tickOp()), aDone(false), aRefused(false), just(faultOp(1)), just(repairOp(1)), just(faultOp(3)), just(cancelOp(1)), just(orderOp(2, 2, 6)), just(openOp()), just(putOp(6, 2)),
	}
	everyList(t, line(), 2, []op{putOp(5, 0), orderOp(1, 2, 5)}, choose, 4)
	everyList(t, line(), 1, []op{putOp(5, 0), orderOp(1, 2, 5), tickOp(), aDone(false)(newWords(line(), 1, []api.Note{put(5, 0), send(1, 5, 0)}))}, choose, 3)
}

func TestP21_1_EveryShortListWithTwoTotes(t *testing.T) {
	choose := []chooser{
		just(tickOp()), aDone(false), aDone(true), aRefused(true), just(cancelOp(1)), just(faultOp(8)), just(repairOp(8)), just(openOp()),
	}
	everyList(t, star(), 2, []op{putOp(5, 1), putOp(6, 2), orderOp(1, 4, 5), orderOp(2, 4, 6)}, choose, 4)
	everyList(t, star(), 1, []op{putOp(5, 0), putOp(6, 4), putOp(7, 3), orderOp(1, 4, 6), orderOp(2, 5, 5), orderOp(3, 4, 7), tickOp()}, choose, 4)
}

func TestP21_1_EveryShortListOfAnEmptyOne(t *testing.T) {
	choose := []chooser{
		just(putOp(5, 1)), just(putOp(5, 0)), just(putOp(6, 2)), just(orderOp(1, 2, 5)), just(orderOp(2, 2, 6)), just(orderOp(1, 2, 6)),
		just(cancelOp(1)), just(tickOp()), aDone(false),
	}
	everyList(t, example(), 2, nil, choose, 4)
}

// chance makes calls up.
type chance struct {
	*rand.Rand
	l      api.Layout
	next   int // the ID that no request has yet
	rarely int // how often a device breaks, of so many calls
	totes  int // at most
}

func newChance(l api.Layout, seed int) *chance {
	rnd := rand.New(rand.NewSource(int64(seed)))
	return &chance{rnd, l, 0, []int{8, 25, 1000}[rnd.Intn(3)], 1 + rnd.Intn(max(1, min(29, len(l.Nodes)/3)))}
}

func (r *chance) one(l ...int) int { return l[r.Intn(len(l))] }

func (r *chance) dev() int { return 1 + r.Intn(max(1, len(r.l.Edges))) }

// tote is mostly one that is there.
func (r *chance) tote(w *byWords) int {
	if len(w.where) == 0 || r.Intn(8) == 0 {
		return r.one(1+r.Intn(30), 1+r.Intn(30), 1+r.Intn(30), 0, 31, -1, math.MaxInt)
	}
	var there []int
	for tote := range w.where {
		there = append(there, tote)
	}
	slices.Sort(there)
	return there[r.Intn(len(there))]
}

// station is mostly one.
func (r *chance) station() int {
	var all []int
	for node, n := range r.l.Nodes {
		if n.Kind == api.NStation {
			all = append(all, node)
		}
	}
	if len(all) == 0 || r.Intn(20) == 0 {
		return r.one(r.Intn(len(r.l.Nodes)), -1, 40, len(r.l.Nodes), math.MinInt)
	}
	return all[r.Intn(len(all))]
}

func (r *chance) order(w *byWords) op {
	if r.Intn(6) == 0 {
		id := r.one(-1, 1<<31, 1<<31-1, r.Intn(r.next+1), r.Intn(r.next+1), r.Intn(r.next+1))
		if was := w.find(id); was != nil && r.Intn(2) == 0 {
			return orderOp(id, was.Station, was.Tote)
		}
		return orderOp(id, r.station(), r.tote(w))
	}
	o := orderOp(r.next, r.station(), r.tote(w))
	if r.next < 65 {
		r.next++
	}
	return o
}

func (r *chance) put(w *byWords) op {
	if len(w.where) >= r.totes && r.Intn(4) > 0 {
		return tickOp()
	}
	return putOp(r.one(1+r.Intn(30), 1+r.Intn(30), 1+r.Intn(30), 1+r.Intn(30), r.tote(w)), r.one(r.Intn(len(r.l.Nodes)), r.Intn(len(r.l.Nodes)), r.Intn(len(r.l.Nodes)), r.Intn(len(r.l.Nodes)), len(r.l.Nodes), -1))
}

// answer is mostly a true one, of a device that was told.
func (r *chance) answer(w *byWords) op {
	dev := r.dev()
	for range 20 {
		if _, told := w.told[dev]; told {
			break
		}
		dev = r.dev()
	}
	what, told := w.told[dev]
	if !told {
		what = [2]int{1 + r.Intn(30), r.Intn(3)}
	}
	switch r.Intn(24) {
	case 0:
		what[0] = 1 + r.Intn(30)
	case 1:
		what[1] = (what[1] + r.one(1, 65535, 32768)) % 65536
	case 2:
		dev = r.one(r.dev(), min(200, len(r.l.Edges)+1))
	case 3:
		return teleOp(answer(api.TRefused, dev, what[1], what[0], 1+r.Intn(3)))
	case 4:
		return teleOp(answer(uint8(r.one(api.TMove, api.TState)), dev, what[1], r.one(1, what[0]), 0))
	}
	return doneOp(dev, what[1], what[0])
}

// mask breaks a device, now one that is next on a path, or mends one, mostly such as changes something.
func (r *chance) mask(w *byWords) op {
	dev := r.dev()
	for tote := 1; tote <= 30 && r.Intn(12) > 0; tote++ {
		if path := w.jobs[tote]; len(path) > 0 {
			return faultOp(path[r.Intn(min(2, len(path)))])
		}
	}
	if r.Intn(r.rarely) > 0 {
		for i := range w.edges {
			if w.down[i+1] && r.Intn(2) == 0 {
				return []op{repairOp(i + 1), repairOp(i + 1), repairOp(i + 1), faultOp(i + 1)}[r.Intn(4)]
			}
		}
		return repairOp(dev)
	}
	return faultOp(dev)
}

func (r *chance) op(w *byWords) op {
	switch n := r.Intn(100); {
	case n < 32:
		return tickOp()
	case n < 68:
		return r.answer(w)
	case n < 78:
		return r.put(w)
	case n < 89:
		return r.order(w)
	case n < 93:
		return cancelOp(r.one(r.Intn(r.next+1), r.Intn(r.next+1), r.Intn(r.next+1), -1, 1<<31))
	case n < 97:
		return r.mask(w)
	case n < 98:
		return openOp()
	}
	all := noTelegrams()
	same := all[api.Errno(r.one(int(api.ErrLength), int(api.ErrMark), int(api.ErrSum), int(api.ErrKind), int(api.ErrField)))]
	return hearOp(same[r.Intn(len(same))])
}

// chanceRun calls f with a double and what comes by chance.
func chanceRun(t *testing.T, l api.Layout, calls, seed int, f func(d *double, o op)) {
	t.Helper()
	r := newChance(l, seed)
	d := newDouble(t, l, r.one(1, 1, 2, 3, 5, 20))
	for range calls {
		f(d, r.op(d.w))
	}
}

// what tells of a call what it was, and how it was answered.
func what(o op, r result) string {
	name := o.name
	if name == "Hear" {
		x, _ := tele.Decode(o.data)
		name += fmt.Sprint(x.Kind)
	}
	return fmt.Sprint(name, " ", int(r.e), " ", r.yes)
}

func TestP21_1_LongListsOfCalls(t *testing.T) {
	count := map[string]int{}
	for at, l := range layouts() {
		for run := range 12 {
			chanceRun(t, l, 350, 100*at+run, func(d *double, o op) {
				served, jobs := len(d.w.served), len(d.w.jobs)
				r := d.call(o)
				count[what(o, r)]++
				if o.name == "Tick" {
					count[fmt.Sprint("served ", min(2, len(d.w.served)-served))]++
					count[fmt.Sprint("told ", min(3, len(r.teles)))]++
					count[fmt.Sprint("jobs ", max(-1, min(2, len(d.w.jobs)-jobs)))]++
				}
			})
		}
	}
	for _, way := range []string{
		"Put 0 false", "Put 1 false", "Put 2 false", "Put 100 false",
		"Order 0 true", "Order 0 false", "Order 1 false", "Order 2 false", "Order 160 false", "Order 161 false",
		"Cancel 0 true", "Cancel 0 false", "Cancel 4 false", "Cancel 140 false", "Open 0 false",
		"Hear1 23 false", "Hear2 0 false", "Hear2 1 false", "Hear2 40 false", "Hear3 0 false", "Hear3 40 false", "Hear4 0 false", "Hear4 40 false",
		"Hear5 0 false", "Hear5 40 false", "Hear7 23 false", "Hear0 20 false", "Hear0 21 false", "Hear0 22 false", "Hear0 23 false", "Hear0 24 false",
		"served 1", "told 0", "told 1", "told 2", "told 3", "jobs -1", "jobs 0", "jobs 1", "jobs 2",
	} {
		if count[way] < 15 {
			t.Errorf("%s: %d times", way, count[way])
		}
	}
}

func TestP21_1_WhatFailsChangesNothing(t *testing.T) {
	for at, l := range layouts() {
		chanceRun(t, l, 300, 2000+at, func(d *double, o op) {
			before, size := lookAt(d.c), d.p.Size()
			r := d.call(o)
			if after := lookAt(d.c); r.e != api.OK && (after != before || d.p.Size() != size || !r.same(result{e: r.e})) {
				t.Fatalf("%v: %v: %s became %s", o, r, before, after)
			}
		})
	}
}

// safe holds that no node is on the paths of two jobs, nor taken and on another tote's path; all by what is answered.
func safe(t *testing.T, l api.Layout, c *Control, said any) {
	t.Helper()
	owner := map[int]int{}
	for tote := 1; tote <= 30; tote++ {
		path := c.Path(tote)
		for i, dev := range path {
			edge := l.Edges[dev-1]
			if other := owner[edge[1]]; other > 0 {
				t.Fatalf("behind %v: the node %d is on the paths of %d and %d", said, edge[1], other, tote)
			}
			owner[edge[1]] = tote
			if i == 0 && c.Where(tote) != edge[0] || i > 0 && l.Edges[path[i-1]-1][1] != edge[0] {
				t.Fatalf("behind %v: %v is no path of %d", said, path, tote)
			}
			if i > 0 && l.Nodes[edge[0]].Kind != api.NTrack {
				t.Fatalf("behind %v: %v of %d goes through %d", said, path, tote, edge[0])
			}
		}
	}
	taken := map[int]int{}
	take := func(node, tote int) {
		t.Helper()
		if other := taken[node]; other > 0 && other != tote {
			t.Fatalf("behind %v: the node %d is taken by %d and %d", said, node, other, tote)
		}
		if other := owner[node]; other > 0 && other != tote {
			t.Fatalf("behind %v: the node %d is taken by %d, and on the path of %d", said, node, tote, other)
		}
		taken[node] = tote
	}
	for tote := 1; tote <= 30; tote++ {
		if node := c.Where(tote); node >= 0 {
			take(node, tote)
		}
	}
	for dev := 1; dev <= len(l.Edges); dev++ {
		if tote, _, told := c.Told(dev); told {
			take(l.Edges[dev-1][1], tote)
			if path := c.Path(tote); c.Where(tote) != l.Edges[dev-1][0] || len(path) > 0 && path[0] != dev {
				t.Fatalf("behind %v: the device %d is told to move %d, whose path is %v", said, dev, tote, path)
			}
		}
	}
}

func TestP21_3_Safe(t *testing.T) {
	for at, l := range layouts() {
		jobs := 0
		for run := range 25 {
			chanceRun(t, l, 150, 3000+100*at+run, func(d *double, o op) {
				o.onControl(t, &d.c, &d.p)
				o.onWords(&d.w)
				safe(t, l, d.c, o)
				jobs = max(jobs, len(d.w.jobs))
			})
		}
		if len(l.Nodes) > 6 && jobs < 2 {
			t.Errorf("%v: %d jobs at once", l.Nodes, jobs)
		}
	}
}

// TestP21_3_SafeInACrowd: many totes on a great layout, each wanted; all goes on in its tick.
func TestP21_3_SafeInACrowd(t *testing.T) {
	l := wide()
	for seed := range 8 {
		rnd := rand.New(rand.NewSource(int64(seed)))
		c, _ := Open(l, 4, tape.New())
		id, most := 0, 0
		for tote := 1; tote <= 4+3*seed; tote++ {
			c.Put(tote, rnd.Intn(40))
		}
		for range 250 {
			c.Order(api.Request{ID: id, Station: []int{24, 30, 35, 39}[rnd.Intn(4)], Tote: 1 + rnd.Intn(30)})
			id++
			teles, e := c.Tick()
			if e != api.OK {
				t.Fatalf("Tick: %d", e)
			}
			safe(t, l, c, "Tick")
			most = max(most, len(teles))
			for _, b := range teles {
				x, _ := tele.Decode(b)
				if x.Kind = api.TDone; rnd.Intn(3) > 0 {
					c.Hear(bytesOf(x))
					safe(t, l, c, x)
				}
			}
		}
		served := 0
		for node := range 40 {
			served += len(c.Served(node))
		}
		if served < 5 || most < 2 {
			t.Errorf("%d served, %d told at once", served, most)
		}
	}
}
