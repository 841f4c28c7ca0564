package grid

import (
	"fmt"
	"math"
	"math/rand"
	"slices"
	"testing"
	"unsafe"

	"stillage/api"
)

// byWords is a rack as the chapter's words have it, slow and plain, and apart from the program: each lane's totes stand
// in a list that begins at the mouth, made anew by each change.
type byWords struct {
	depths []int
	lanes  [][]int
}

func newWords(depths []int) *byWords {
	return &byWords{slices.Clone(depths), make([][]int, len(depths))}
}

func (w *byWords) copied() *byWords {
	c := newWords(w.depths)
	for i, l := range w.lanes {
		c.lanes[i] = slices.Clone(l)
	}
	return c
}

func (w *byWords) full(lane int) bool { return len(w.lanes[lane]) == w.depths[lane] }

// best goes from the emptiest lanes to the fullest, and in these from the least number on.
func (w *byWords) best(leftOut int) (int, bool) {
	for held := range 8 {
		for lane := range w.lanes {
			if lane != leftOut && len(w.lanes[lane]) == held && !w.full(lane) {
				return lane, true
			}
		}
	}
	return 0, false
}

func (w *byWords) where(tote int) int {
	at := -1
	for lane, totes := range w.lanes {
		if slices.Contains(totes, tote) {
			at = lane
		}
	}
	return at
}

func (w *byWords) push(lane, tote int) {
	w.lanes[lane] = append([]int{tote}, w.lanes[lane]...)
}

func (w *byWords) pop(lane int) int {
	tote := w.lanes[lane][0]
	w.lanes[lane] = slices.Clone(w.lanes[lane][1:])
	return tote
}

func (w *byWords) put(tote int) (int, api.Errno) {
	if tote <= 0 || tote >= 31 {
		return 0, api.ErrRange
	}
	if w.where(tote) >= 0 {
		return 0, api.ErrTwice
	}
	lane, ok := w.best(-1)
	if !ok {
		return 0, api.ErrFull
	}
	w.push(lane, tote)
	return lane, api.OK
}

// plan moves the totes of another rack, which is like this one at first.
func (w *byWords) plan(tote int) ([]Move, api.Errno) {
	own := w.where(tote)
	if own < 0 {
		return nil, api.ErrTote
	}
	var moves []Move
	by := w.copied()
	for by.lanes[own][0] != tote {
		lane, ok := by.best(own)
		if !ok {
			return nil, api.ErrFull
		}
		other := by.pop(own)
		by.push(lane, other)
		moves = append(moves, Move{other, own, lane})
	}
	return append(moves, Move{tote, own, -1}), api.OK
}

func (w *byWords) do(m Move) api.Errno {
	isLane := func(n int) bool { return 0 <= n && n < len(w.depths) }
	switch {
	case !isLane(m.From), m.To != -1 && !isLane(m.To), m.From == m.To:
		return api.ErrRange
	case len(w.lanes[m.From]) == 0, w.lanes[m.From][0] != m.Tote:
		return api.ErrTote
	case m.To != -1 && w.full(m.To):
		return api.ErrFull
	}
	w.pop(m.From)
	if m.To != -1 {
		w.push(m.To, m.Tote)
	}
	return api.OK
}

func (w *byWords) lane(lane int) []int {
	if lane < 0 || lane >= len(w.lanes) {
		return nil
	}
	list := slices.Clone(w.lanes[lane])
	slices.Reverse(list)
	return list
}

// room counts the slots that are empty, one by one.
func (w *byWords) room() int {
	room := 0
	for lane, depth := range w.depths {
		for slot := range depth {
			if slot >= len(w.lanes[lane]) {
				room++
			}
		}
	}
	return room
}

// totes are those that stand in the rack, rising.
func (w *byWords) totes() []int {
	all := slices.Concat(w.lanes...)
	slices.Sort(all)
	return all
}

// op is a call of a rack.
type op struct {
	name string
	n    int
	move Move
}

func putOp(tote int) op            { return op{name: "Put", n: tote} }
func planOp(tote int) op           { return op{name: "Plan", n: tote} }
func doOp(tote, from, to int) op   { return op{name: "Do", move: Move{tote, from, to}} }
func whereOp(tote int) op          { return op{name: "Where", n: tote} }
func laneOp(lane int) op           { return op{name: "Lane", n: lane} }
func roomOp() op                   { return op{name: "Room"} }
func out(tote, from int) Move      { return Move{tote, from, -1} }
func move(tote, from, to int) Move { return Move{tote, from, to} }

// result is what a call answers.
type result struct {
	n     int
	moves []Move
	totes []int
	e     api.Errno
}

func (r result) same(o result) bool {
	return r.n == o.n && r.e == o.e && slices.Equal(r.moves, o.moves) && slices.Equal(r.totes, o.totes)
}

func (o op) onRack(r *Rack) (got result) {
	switch o.name {
	case "Put":
		got.n, got.e = r.Put(o.n)
	case "Plan":
		got.moves, got.e = r.Plan(o.n)
	case "Do":
		got.e = r.Do(o.move)
	case "Where":
		got.n = r.Where(o.n)
	case "Lane":
		got.totes = r.Lane(o.n)
	case "Room":
		got.n = r.Room()
	}
	return got
}

func (o op) onWords(w *byWords) (got result) {
	switch o.name {
	case "Put":
		got.n, got.e = w.put(o.n)
	case "Plan":
		got.moves, got.e = w.plan(o.n)
	case "Do":
		got.e = w.do(o.move)
	case "Where":
		got.n = w.where(o.n)
	case "Lane":
		got.totes = w.lane(o.n)
	case "Room":
		got.n = w.room()
	}
	return got
}

// outside are numbers that are neither totes nor lanes nor depths.
func outside() []int {
	return []int{-1, -2, -8, -30, -31, 33, 34, 256, 257, 1 << 16, 1 << 32, 1<<32 + 1, math.MinInt, math.MinInt + 1, math.MaxInt - 1, math.MaxInt}
}

// noTotes are numbers that are no totes.
func noTotes() []int { return append(outside(), 0, 31, 32) }

// like is so many times the same number.
func like(n, times int) []int { return slices.Repeat([]int{n}, times) }

// upTo is the list of the numbers from 1 to n.
func upTo(n int) []int {
	var list []int
	for i := range n {
		list = append(list, i+1)
	}
	return list
}

// unlike are 32 depths, each from 1 to 8 four times.
func unlike() []int { return slices.Repeat([]int{3, 1, 8, 5, 2, 7, 4, 6}, 4) }

// racks are depths of one lane, of few and of 32, like ones and unlike ones.
func racks() [][]int {
	return [][]int{
		{1}, {2}, {5}, {8},
		{1, 1}, {2, 1}, {1, 2}, {8, 1}, {1, 8}, {8, 8},
		{3, 2, 1}, {1, 2, 3}, {2, 2, 2}, {1, 8, 1}, {8, 2, 5}, {4, 4, 4, 4},
		{1, 2, 3, 4, 5, 6, 7, 8}, {8, 7, 6, 5, 4, 3, 2, 1},
		like(1, 31), like(1, 32), like(2, 32), like(8, 32), unlike(),
	}
}

func newRack(t testing.TB, depths []int) *Rack {
	t.Helper()
	r, e := New(depths)
	if r == nil || e != api.OK {
		t.Fatalf("New(%v): %v, %d", depths, r, e)
	}
	return r
}

// picture is all that can be asked of a rack, but plans.
func picture(r *Rack) string {
	lanes, where := [][]int{}, []int{}
	for lane := range 32 {
		lanes = append(lanes, r.Lane(lane))
	}
	for tote := range 32 {
		where = append(where, r.Where(tote))
	}
	return fmt.Sprint(lanes, where, r.Room())
}

// double has a rack and its slow form side by side, and holds each call of the one against the other.
type double struct {
	t testing.TB
	r *Rack
	w *byWords
}

func newDouble(t testing.TB, depths ...int) *double {
	t.Helper()
	return &double{t, newRack(t, depths), newWords(depths)}
}

// stand is a rack of these depths in whose lanes these totes stand, from the innermost on.
func stand(t testing.TB, depths []int, lanes ...[]int) *double {
	t.Helper()
	d := newDouble(t, depths...)
	for lane, totes := range lanes {
		for _, tote := range totes {
			d.bring(tote, lane)
		}
		d.want(laneOp(lane), result{totes: totes})
	}
	return d
}

// bring puts a tote, and moves it from the best lane to that one.
func (d *double) bring(tote, lane int) {
	d.t.Helper()
	r := d.call(putOp(tote))
	if r.e == api.OK && r.n != lane {
		r = d.call(doOp(tote, r.n, lane))
	}
	if r.e != api.OK {
		d.t.Fatalf("%d can't be brought to the lane %d: %d", tote, lane, r.e)
	}
}

func (d *double) call(o op) result {
	d.t.Helper()
	before := d.w.copied()
	got, want := o.onRack(d.r), o.onWords(d.w)
	if !got.same(want) {
		d.t.Fatalf("depths %v, from the mouths on %v: %v: %v, not %v", before.depths, before.lanes, o, got, want)
	}
	return got
}

// look holds all that can be asked of the rack, but plans, against the words.
func (d *double) look() {
	d.t.Helper()
	d.call(roomOp())
	for lane := -2; lane <= len(d.w.depths)+1; lane++ {
		d.call(laneOp(lane))
	}
	for tote := -1; tote <= 32; tote++ {
		d.call(whereOp(tote))
	}
}

// same is look, with the plan of each tote.
func (d *double) same() {
	d.t.Helper()
	d.look()
	for tote := -1; tote <= 32; tote++ {
		d.call(planOp(tote))
	}
}

// want calls, and holds the answer against one that the test has written out.
func (d *double) want(o op, r result) {
	d.t.Helper()
	if got := d.call(o); !got.same(r) {
		d.t.Fatalf("%v: %v, not %v", o, got, r)
	}
	d.same()
}

func (d *double) put(tote, lane int) {
	d.t.Helper()
	d.want(putOp(tote), result{n: lane})
}

func (d *double) plan(tote int, moves ...Move) {
	d.t.Helper()
	d.want(planOp(tote), result{moves: moves})
}

func (d *double) do(moves ...Move) {
	d.t.Helper()
	for _, m := range moves {
		d.want(op{name: "Do", move: m}, result{})
	}
}

// holds wants the totes of each lane, and so much room.
func (d *double) holds(room int, lanes ...[]int) {
	d.t.Helper()
	d.want(roomOp(), result{n: room})
	for lane, totes := range lanes {
		d.want(laneOp(lane), result{totes: totes})
		for _, tote := range totes {
			d.want(whereOp(tote), result{n: lane})
		}
	}
}

// refused wants an error, with nothing beside it and nothing changed.
func (d *double) refused(o op, e api.Errno) {
	d.t.Helper()
	before := picture(d.r)
	got := o.onRack(d.r)
	if !got.same(result{e: e}) {
		d.t.Fatalf("%v: %v, not %d alone", o, got, e)
	}
	if after := picture(d.r); after != before {
		d.t.Fatalf("%v was refused, but\n%s is now\n%s", o, before, after)
	}
	d.want(o, result{e: e})
}

func TestP12_1_NewRefusesWhatIsOutside(t *testing.T) {
	for _, depths := range [][]int{nil, {}, like(1, 33), like(8, 33), like(1, 34), like(1, 64), like(1, 288), like(0, 33)} {
		if r, e := New(depths); r != nil || e != api.ErrRange {
			t.Errorf("New of %d depths: %v, %d", len(depths), r, e)
		}
	}
	for _, depth := range append(noTotes(), 9, 10, 16, 30) {
		for _, count := range []int{1, 2, 3, 31, 32} {
			for at := range count {
				depths := like(1+at%8, count)
				depths[at] = depth
				if r, e := New(depths); r != nil || e != api.ErrRange {
					t.Errorf("New(%v): %v, %d", depths, r, e)
				}
			}
		}
	}
}

func TestP12_1_NewIsEmpty(t *testing.T) {
	for count := 1; count <= 32; count++ {
		for depth := 1; depth <= 8; depth++ {
			d := newDouble(t, like(depth, count)...)
			d.want(roomOp(), result{n: count * depth})
			for lane := range count {
				d.want(laneOp(lane), result{})
				d.refused(op{name: "Do", move: out(1, lane)}, api.ErrTote)
			}
			d.want(whereOp(1), result{n: -1})
			d.refused(planOp(1), api.ErrTote)
		}
	}
}

func TestP12_1_Example(t *testing.T) {
	d := newDouble(t, 2, 1)
	d.put(1, 0)
	d.put(2, 1)
	d.put(3, 0)
	d.refused(planOp(1), api.ErrFull)
	d.do(out(2, 1))
	d.plan(1, move(3, 0, 1), out(1, 0))
	d.do(move(3, 0, 1), out(1, 0))
	d.holds(2, nil, []int{3})
}

func TestP12_1_FirstAndLastTote(t *testing.T) {
	d := newDouble(t, 2, 1)
	d.put(30, 0)
	d.put(1, 1)
	d.holds(1, []int{30}, []int{1})
	d.do(move(1, 1, 0))
	d.plan(30, move(1, 0, 1), out(30, 0))
	d.plan(1, out(1, 0))
	d.do(move(1, 0, 1), out(30, 0), out(1, 1))
	d.holds(3, nil, nil)
	for tote := 1; tote <= 30; tote++ {
		d.put(tote, 0)
		d.plan(tote, out(tote, 0))
		d.do(out(tote, 0))
	}
}

// fill puts totes from 1 on, in rounds over the lanes that have a slot left, till none is left or all totes stand there.
func (d *double) fill() int {
	d.t.Helper()
	tote := 0
	for slot := range 8 {
		for lane, depth := range d.w.depths {
			if slot < depth && tote < 30 {
				tote++
				d.want(putOp(tote), result{n: lane})
			}
		}
	}
	return tote
}

func TestP12_1_FilledToTheLastSlotAndEmptied(t *testing.T) {
	for _, depths := range racks() {
		slots := 0
		for _, depth := range depths {
			slots += depth
		}
		d := newDouble(t, depths...)
		for range 2 {
			totes := d.fill()
			if totes != min(slots, 30) {
				t.Fatalf("%v: %d totes", depths, totes)
			}
			d.want(roomOp(), result{n: slots - totes})
			if totes < 30 {
				d.refused(putOp(30), api.ErrFull)
			}
			for lane := range depths {
				for stands := d.r.Lane(lane); len(stands) > 0; stands = stands[:len(stands)-1] {
					d.do(out(stands[len(stands)-1], lane))
				}
			}
			d.want(roomOp(), result{n: slots})
		}
	}
}

func TestP12_1_BestLaneOfSeveralThatHoldEquallyFew(t *testing.T) {
	d := stand(t, []int{3, 3, 3, 3}, []int{1, 2}, []int{3}, []int{4, 5}, []int{6})
	d.put(7, 1)
	d.put(8, 3)
	d.put(9, 0)
	d.put(10, 1)
	d.put(11, 2)
	d.put(12, 3)
	d.refused(putOp(13), api.ErrFull)
	d.do(out(11, 2), out(12, 3))
	d.put(13, 2)
	d.put(14, 3)
}

func TestP12_1_BestLaneWhereTheEmptiestIsFull(t *testing.T) {
	d := stand(t, []int{4, 1, 3, 2}, []int{1, 2, 3}, []int{4}, []int{5, 6}, []int{7, 8})
	// One tote is in the lane 1, and two in the lane 3, but neither has room.
	d.put(9, 2)
	d.put(10, 0)
	d.refused(putOp(11), api.ErrFull)
	d.do(out(4, 1))
	d.put(11, 1)
	d.do(out(8, 3))
	d.put(12, 3)
}

func TestP12_1_BestLaneOfLikeOnesInTurn(t *testing.T) {
	d := newDouble(t, like(8, 32)...)
	for tote := 1; tote <= 30; tote++ {
		d.put(tote, tote-1)
	}
	d.want(roomOp(), result{n: 256 - 30})
	d.do(out(5, 4), move(6, 5, 0))
	d.put(5, 4)
	d.do(out(30, 29))
	d.put(30, 5)
}

func TestP12_1_PlanOfOneNextToTheMouth(t *testing.T) {
	for _, depths := range racks() {
		d := newDouble(t, depths...)
		d.fill()
		for lane := range depths {
			if stands := d.r.Lane(lane); len(stands) > 0 {
				next := stands[len(stands)-1]
				d.plan(next, out(next, lane))
			}
		}
	}
}

func TestP12_1_PlanOfTheInnermostBehindSeven(t *testing.T) {
	inner := upTo(8)
	d := stand(t, []int{8, 8}, inner)
	d.plan(1, move(8, 0, 1), move(7, 0, 1), move(6, 0, 1), move(5, 0, 1), move(4, 0, 1), move(3, 0, 1), move(2, 0, 1), out(1, 0))
	d = stand(t, []int{2, 8, 3, 2}, nil, inner)
	d.plan(1, move(8, 1, 0), move(7, 1, 2), move(6, 1, 3), move(5, 1, 0), move(4, 1, 2), move(3, 1, 3), move(2, 1, 2), out(1, 1))
	depths := like(8, 32)
	d = stand(t, depths, make([][]int, 31)...)
	for _, tote := range inner {
		d.bring(tote, 31)
	}
	d.plan(1, move(8, 31, 0), move(7, 31, 1), move(6, 31, 2), move(5, 31, 3), move(4, 31, 4), move(3, 31, 5), move(2, 31, 6), out(1, 31))
}

func TestP12_1_PlanWhoseMovesChangeTheBestLane(t *testing.T) {
	// At first the lane 2 alone is the best: then it holds as many as the lane 0, then as the lane 1.
	d := stand(t, []int{8, 8, 8, 8}, []int{1}, []int{2, 3}, nil, []int{4, 5, 6, 7, 8})
	d.plan(4, move(8, 3, 2), move(7, 3, 0), move(6, 3, 2), move(5, 3, 0), out(4, 3))
	d.plan(7, move(8, 3, 2), out(7, 3))
	// A lane gets full by the moves, and the next best takes the rest.
	d = stand(t, []int{1, 4, 2, 8}, nil, []int{1, 2}, []int{3}, []int{4, 5, 6, 7, 8})
	d.plan(4, move(8, 3, 0), move(7, 3, 2), move(6, 3, 1), move(5, 3, 1), out(4, 3))
	d.do(move(8, 3, 0), move(7, 3, 2), move(6, 3, 1), move(5, 3, 1), out(4, 3))
	d.holds(8, []int{8}, []int{1, 2, 6, 5}, []int{3, 7}, nil)
}

func TestP12_1_PlanLeavesItsOwnLaneOut(t *testing.T) {
	// Its own lane would be the best for those ahead of it.
	d := stand(t, []int{8, 8, 8}, []int{1, 2, 3}, []int{4, 5, 6, 7}, []int{8, 9, 10, 11, 12})
	d.plan(1, move(3, 0, 1), move(2, 0, 1), out(1, 0))
	d.plan(2, move(3, 0, 1), out(2, 0))
	d.plan(3, out(3, 0))
	d.plan(4, move(7, 1, 0), move(6, 1, 0), move(5, 1, 0), out(4, 1))
	d.plan(8, move(12, 2, 0), move(11, 2, 0), move(10, 2, 1), move(9, 2, 0), out(8, 2))
}

func TestP12_1_PlanWithRoomJustEnoughAndOneTooLittle(t *testing.T) {
	d := stand(t, []int{4, 2, 2}, []int{1, 2, 3, 4}, []int{5})
	d.plan(1, move(4, 0, 2), move(3, 0, 1), move(2, 0, 2), out(1, 0))
	d.bring(6, 2)
	d.refused(planOp(1), api.ErrFull)
	d.plan(2, move(4, 0, 1), move(3, 0, 2), out(2, 0))
	d.bring(7, 1)
	d.refused(planOp(1), api.ErrFull)
	d.refused(planOp(2), api.ErrFull)
	d.plan(3, move(4, 0, 2), out(3, 0))
	d.bring(8, 2)
	d.refused(planOp(1), api.ErrFull)
	d.refused(planOp(2), api.ErrFull)
	d.refused(planOp(3), api.ErrFull)
	d.plan(4, out(4, 0))
	d.do(out(8, 2), out(7, 1))
	d.plan(2, move(4, 0, 1), move(3, 0, 2), out(2, 0))
	d.do(out(6, 2))
	d.plan(1, move(4, 0, 2), move(3, 0, 1), move(2, 0, 2), out(1, 0))
}

func TestP12_1_PlanWithRoomInItsOwnLaneAlone(t *testing.T) {
	for depth := 3; depth <= 8; depth++ {
		for other := 1; other <= 3; other++ {
			full := upTo(other)
			d := stand(t, []int{other, depth}, full, []int{10, 11})
			d.refused(planOp(10), api.ErrFull)
			d.plan(11, out(11, 1))
			d.plan(other, out(other, 0))
		}
	}
	d := stand(t, []int{8}, []int{1, 2})
	d.refused(planOp(1), api.ErrFull)
	d.plan(2, out(2, 0))
	d.do(out(2, 0))
	d.plan(1, out(1, 0))
}

func TestP12_1_DoBringsOut(t *testing.T) {
	for _, depths := range racks() {
		d := newDouble(t, depths...)
		d.fill()
		for lane := range depths {
			if stands := d.r.Lane(lane); len(stands) > 0 {
				next := stands[len(stands)-1]
				d.do(out(next, lane))
				d.want(whereOp(next), result{n: -1})
				d.want(laneOp(lane), result{totes: stands[:len(stands)-1]})
			}
		}
	}
}

func TestP12_1_DoBetweenAnyTwoLanes(t *testing.T) {
	for _, depths := range racks() {
		for from := range depths {
			for to := range depths {
				d := newDouble(t, depths...)
				d.bring(7, from)
				if from == to {
					d.refused(doOp(7, from, to), api.ErrRange)
					continue
				}
				d.call(doOp(7, from, to))
				if d.r.Where(7) != to || len(d.r.Lane(from)) > 0 {
					t.Fatalf("%v: 7 from %d to %d: it is in %d", depths, from, to, d.r.Where(7))
				}
			}
		}
	}
}

func TestP12_1_AToteThatWentOutAndCameAgain(t *testing.T) {
	d := stand(t, []int{2, 2}, []int{1, 2}, []int{3})
	d.do(out(2, 0))
	d.want(whereOp(2), result{n: -1})
	d.want(laneOp(0), result{totes: []int{1}})
	d.refused(planOp(2), api.ErrTote)
	d.refused(doOp(2, 0, -1), api.ErrTote)
	d.put(4, 0)
	d.put(2, 1)
	d.holds(0, []int{1, 4}, []int{3, 2})
	d.refused(putOp(2), api.ErrTwice)
	d.do(out(2, 1), out(3, 1), move(4, 0, 1))
	d.put(2, 0)
	d.holds(1, []int{1, 2}, []int{4})
}

func TestP12_1_PutOfWhatIsNoTote(t *testing.T) {
	for _, depths := range [][]int{{1}, {8}, {2, 1}, {3, 2, 1}, like(1, 30)} {
		d := newDouble(t, depths...)
		allRefused := func() {
			for _, tote := range noTotes() {
				d.refused(putOp(tote), api.ErrRange)
			}
		}
		allRefused()
		d.fill()
		allRefused()
	}
}

func TestP12_1_PutOfOneThatStandsThere(t *testing.T) {
	for _, depths := range racks() {
		d := newDouble(t, depths...)
		d.put(9, 0)
		d.refused(putOp(9), api.ErrTwice)
		d.do(out(9, 0))
		// Full, where the slots are no more than the totes.
		for _, tote := range upTo(d.fill()) {
			d.refused(putOp(tote), api.ErrTwice)
		}
	}
}

func TestP12_1_PutIntoAFullRack(t *testing.T) {
	for _, depths := range racks() {
		d := newDouble(t, depths...)
		for tote := d.fill() + 1; tote <= 30; tote++ {
			d.refused(putOp(tote), api.ErrFull)
		}
	}
}

func TestP12_1_PlanOfWhatIsNotThere(t *testing.T) {
	for _, depths := range racks() {
		d := newDouble(t, depths...)
		for _, tote := range append(noTotes(), upTo(30)...) {
			d.refused(planOp(tote), api.ErrTote)
		}
		totes := d.fill()
		for _, tote := range noTotes() {
			d.refused(planOp(tote), api.ErrTote)
		}
		for tote := totes + 1; tote <= 30; tote++ {
			d.refused(planOp(tote), api.ErrTote)
		}
	}
}

func TestP12_1_DoWhereThereIsNoLane(t *testing.T) {
	for _, depths := range [][]int{{1}, {8}, {2, 1}, {3, 2, 1}, like(1, 32), like(8, 32)} {
		d := newDouble(t, depths...)
		d.bring(5, 0)
		last := len(depths) - 1
		for _, wrong := range append(outside(), len(depths), len(depths)+1) {
			d.refused(doOp(5, wrong, 0), api.ErrRange)
			d.refused(doOp(5, wrong, -1), api.ErrRange)
			d.refused(doOp(5, wrong, wrong), api.ErrRange)
			d.refused(doOp(6, wrong, last), api.ErrRange)
			if wrong != -1 {
				d.refused(doOp(5, 0, wrong), api.ErrRange)
				d.refused(doOp(6, last, wrong), api.ErrRange)
			}
		}
		for lane := range depths {
			d.refused(doOp(5, lane, lane), api.ErrRange)
			d.refused(doOp(6, lane, lane), api.ErrRange)
		}
	}
}

func TestP12_1_DoOfOneThatIsNotNextToTheMouth(t *testing.T) {
	// The lane 1 is full, the lane 2 has room, the lane 3 is empty.
	d := stand(t, []int{3, 2, 2, 1}, []int{1, 2, 3}, []int{4, 5}, []int{6})
	for _, to := range []int{-1, 1, 2, 3} {
		for _, tote := range append(noTotes(), 1, 2, 4, 5, 6, 7, 30) {
			d.refused(doOp(tote, 0, to), api.ErrTote)
		}
	}
	for _, to := range []int{-1, 0, 1, 2} {
		for _, tote := range append(noTotes(), upTo(30)...) {
			d.refused(doOp(tote, 3, to), api.ErrTote)
		}
	}
	d.refused(doOp(3, 0, 1), api.ErrFull)
	d.do(move(3, 0, 2), move(2, 0, 3), out(1, 0))
}

func TestP12_1_DoIntoAFullLane(t *testing.T) {
	for depth := 1; depth <= 8; depth++ {
		d := stand(t, []int{depth, 2}, upTo(depth), []int{20, 21})
		d.refused(doOp(21, 1, 0), api.ErrFull)
		d.refused(doOp(depth, 0, 1), api.ErrFull)
		d.do(out(21, 1))
		d.refused(doOp(20, 1, 0), api.ErrFull)
		d.do(move(depth, 0, 1), out(depth, 1), move(20, 1, 0))
	}
}

func TestP12_1_WhereAndLaneOfWhatThereIsNot(t *testing.T) {
	for _, depths := range racks() {
		d := newDouble(t, depths...)
		nothingThere := func() {
			for _, tote := range noTotes() {
				d.want(whereOp(tote), result{n: -1})
			}
			for _, lane := range append(outside(), len(depths), len(depths)+1) {
				d.want(laneOp(lane), result{})
			}
		}
		nothingThere()
		d.fill()
		nothingThere()
	}
}

// changes are the calls that may change a rack of so many lanes, of so many totes, with one that is none.
func changes(lanes, totes int) []op {
	var ops []op
	for tote := range totes + 1 {
		ops = append(ops, putOp(tote))
		for from := range lanes {
			for to := -1; to < lanes; to++ {
				if tote > 0 {
					ops = append(ops, doOp(tote, from, to))
				}
			}
		}
	}
	return ops
}

// everyList calls f with every list of so many of the calls.
func everyList(ops []op, length int, f func([]op)) {
	list := make([]op, length)
	var fill func(at int)
	fill = func(at int) {
		if at == length {
			f(list)
			return
		}
		for _, o := range ops {
			list[at] = o
			fill(at + 1)
		}
	}
	fill(0)
}

func TestP12_1_EveryShortListOfCalls(t *testing.T) {
	for _, depths := range [][]int{{1}, {2}, {1, 1}, {2, 1}, {1, 2}} {
		everyList(changes(len(depths), 2), 4, func(list []op) {
			d := newDouble(t, depths...)
			for _, o := range list {
				d.call(o)
			}
			d.call(roomOp())
			for n := range 4 {
				d.call(laneOp(n))
				d.call(whereOp(n))
				d.call(planOp(n))
			}
		})
	}
}

// TestP12_1_EveryWayToStand comes by the shortest list of calls to each way in which totes can stand, and tries every
// call there.
func TestP12_1_EveryWayToStand(t *testing.T) {
	for _, depths := range [][]int{{3}, {2, 1}, {1, 3}, {3, 3}, {1, 1, 2}, {2, 1, 2}} {
		seen := map[string]int{}
		ops := changes(len(depths), 3)
		lists := [][]op{nil}
		for len(lists) > 0 {
			list := lists[0]
			lists = lists[1:]
			d := newDouble(t, depths...)
			for _, o := range list {
				d.call(o)
			}
			key := fmt.Sprint(d.w.lanes)
			if seen[key]++; seen[key] > 1 {
				d.look()
				continue
			}
			d.same()
			for _, o := range ops {
				lists = append(lists, append(slices.Clone(list), o))
			}
		}
		if len(seen) < 16 {
			t.Errorf("%v: %d ways", depths, len(seen))
		}
	}
}

// chance makes calls by chance, seldom wrong ones, so that racks get full, and empty.
type chance struct {
	*rand.Rand
}

func (c chance) tote(d *double) int {
	if wrong := noTotes(); c.Intn(25) == 0 {
		return wrong[c.Intn(len(wrong))]
	}
	if stands := d.w.totes(); len(stands) > 0 && c.Intn(2) == 0 {
		return stands[c.Intn(len(stands))]
	}
	return 1 + c.Intn(30)
}

func (c chance) lane(d *double) int {
	if wrong := append(outside(), len(d.w.depths)); c.Intn(25) == 0 {
		return wrong[c.Intn(len(wrong))]
	}
	return c.Intn(len(d.w.depths))
}

// next is a tote that is next to the mouth of its lane, and the lane; 1 and 0 if the rack is empty.
func (c chance) next(d *double) (tote, lane int) {
	if stands := d.w.totes(); len(stands) > 0 {
		lane = d.w.where(stands[c.Intn(len(stands))])
		return d.w.lanes[lane][0], lane
	}
	return 1, 0
}

func (c chance) move(d *double) op {
	tote, from := c.next(d)
	if c.Intn(6) == 0 {
		tote = c.tote(d)
	}
	if c.Intn(12) == 0 {
		from = c.lane(d)
	}
	return doOp(tote, from, c.lane(d))
}

func (c chance) op(d *double, filling bool) op {
	switch c.Intn(10) {
	case 0:
		return putOp(c.tote(d))
	case 1, 2:
		return planOp(c.tote(d))
	case 3, 4, 5:
		return c.move(d)
	case 6:
		return []op{whereOp(c.tote(d)), laneOp(c.lane(d)), roomOp()}[c.Intn(3)]
	}
	if filling {
		return putOp(1 + c.Intn(30))
	}
	tote, lane := c.next(d)
	return doOp(tote, lane, -1)
}

// run calls f with a double of a rack and call by call what comes by chance, now filling it, now emptying it.
func run(t *testing.T, depths []int, calls, seed int, f func(d *double, o op)) {
	t.Helper()
	c := chance{rand.New(rand.NewSource(int64(seed)))}
	d := newDouble(t, depths...)
	for i := range calls {
		f(d, c.op(d, i/60%2 == 0))
	}
}

func TestP12_1_LongListsOfCalls(t *testing.T) {
	answered := map[string]int{}
	for at, depths := range racks() {
		run(t, depths, 1500, 100+at, func(d *double, o op) {
			r := d.call(o)
			d.look()
			answered[fmt.Sprint(o.name, " ", int(r.e))]++
		})
	}
	for _, way := range []string{"Put 0", "Put 1", "Put 2", "Put 5", "Plan 0", "Plan 5", "Plan 160", "Do 0", "Do 1", "Do 5", "Do 160", "Where 0", "Lane 0", "Room 0"} {
		if answered[way] < 50 {
			t.Errorf("%s was answered %d times", way, answered[way])
		}
	}
}

func TestP12_1_LongListsOfCallsOfRacksByChance(t *testing.T) {
	rnd := rand.New(rand.NewSource(12))
	for seed := range 150 {
		depths := make([]int, 1+rnd.Intn(6))
		for i := range depths {
			depths[i] = 1 + rnd.Intn(8)
		}
		run(t, depths, 300, seed, func(d *double, o op) {
			d.call(o)
			d.look()
		})
	}
}

func TestP12_1_WhatIsRefusedChangesNothing(t *testing.T) {
	for at, depths := range racks() {
		run(t, depths, 1000, 1000+at, func(d *double, o op) {
			before := picture(d.r)
			r := o.onRack(d.r)
			o.onWords(d.w)
			if r.e == api.OK {
				return
			}
			if !r.same(result{e: r.e}) {
				t.Fatalf("%v: %v", o, r)
			}
			if after := picture(d.r); after != before {
				t.Fatalf("%v: %d:\n%s became\n%s", o, r.e, before, after)
			}
		})
	}
}

func TestP12_1_PlanChangesNothing(t *testing.T) {
	for at, depths := range racks() {
		run(t, depths, 300, 2000+at, func(d *double, o op) {
			d.call(o)
			before := picture(d.r)
			for tote := range 32 {
				once, e := d.r.Plan(tote)
				again, f := d.r.Plan(tote)
				if !slices.Equal(once, again) || e != f {
					t.Fatalf("Plan(%d): %v, %d, and then %v, %d", tote, once, e, again, f)
				}
			}
			if after := picture(d.r); after != before {
				t.Fatalf("by plans\n%s became\n%s", before, after)
			}
		})
	}
}

// stands are the totes of all lanes of a rack, rising.
func stands(r *Rack) []int {
	var all []int
	for lane := range 32 {
		all = append(all, r.Lane(lane)...)
	}
	slices.Sort(all)
	return all
}

// carryOut does a plan, and looks whether it keeps the promise.
func carryOut(t *testing.T, r *Rack, tote int, plan []Move) {
	t.Helper()
	own := r.Where(tote)
	was, inLane := stands(r), r.Lane(own)
	place := slices.Index(inLane, tote)
	if ahead := len(inLane) - place - 1; len(plan) != ahead+1 {
		t.Fatalf("%v: %d totes stand ahead of %d, and the plan is %v", inLane, ahead, tote, plan)
	}
	for i, m := range plan {
		if e := r.Do(m); e != api.OK {
			t.Fatalf("%v of %v: %d", m, plan, e)
		}
		if isLast := i == len(plan)-1; isLast != (m.To == -1) || isLast != (m.Tote == tote) {
			t.Fatalf("the plan for %d is %v", tote, plan)
		}
	}
	left := slices.DeleteFunc(slices.Clone(was), func(n int) bool { return n == tote })
	if now := stands(r); !slices.Equal(now, left) {
		t.Fatalf("%v stood there, now %v do, behind the plan for %d", was, now, tote)
	}
	if r.Where(tote) != -1 || !slices.Equal(r.Lane(own), inLane[:place]) {
		t.Fatalf("%v became %v behind the plan for %d", inLane, r.Lane(own), tote)
	}
}

// roomBeside is the room of the lanes but one.
func roomBeside(r *Rack, depths []int, but int) int {
	room := 0
	for lane, depth := range depths {
		if lane != but {
			room += depth - len(r.Lane(lane))
		}
	}
	return room
}

func TestP12_2_PlansDoneInOrder(t *testing.T) {
	planned, longest := 0, 0
	for at, depths := range racks() {
		for round := range 10 {
			c := chance{rand.New(rand.NewSource(int64(3000 + 100*at + round)))}
			d := newDouble(t, depths...)
			for i := range 150 {
				d.call(c.op(d, i%100 < 60+round))
				tote := c.tote(d)
				own := d.r.Where(tote)
				plan, e := d.r.Plan(tote)
				if own == -1 {
					continue
				}
				ahead := len(d.r.Lane(own)) - slices.Index(d.r.Lane(own), tote) - 1
				if enough := roomBeside(d.r, depths, own) >= ahead; enough != (e == api.OK) {
					t.Fatalf("%v: Plan(%d): %d, with %d ahead", depths, tote, e, ahead)
				}
				if e != api.OK || i%5 != 0 {
					continue
				}
				carryOut(t, d.r, tote, plan)
				for _, m := range plan {
					d.w.do(m)
				}
				d.look()
				planned, longest = planned+1, max(longest, len(plan))
			}
		}
	}
	if planned < 1000 || longest < 7 {
		t.Errorf("%d plans were done, the longest of %d moves", planned, longest)
	}
}

func TestP12_2_EachToteOfEachLane(t *testing.T) {
	for depth := 1; depth <= 8; depth++ {
		for count := 1; count <= depth; count++ {
			for tote := 1; tote <= count; tote++ {
				for _, others := range [][]int{{8}, {4, 4}, {1, 2, 3, 4}, like(1, 31)} {
					d := stand(t, append([]int{depth}, others...), upTo(count))
					plan, e := d.r.Plan(tote)
					if e != api.OK || len(plan) != count-tote+1 {
						t.Fatalf("%d of %d, beside %v: %v, %d", tote, count, others, plan, e)
					}
					carryOut(t, d.r, tote, plan)
				}
			}
		}
	}
}

// TestP12_2_AllBroughtOutOneByOne plans for tote by tote till the rack is empty.
func TestP12_2_AllBroughtOutOneByOne(t *testing.T) {
	for at, depths := range racks() {
		rnd := rand.New(rand.NewSource(int64(4000 + at)))
		d := newDouble(t, depths...)
		d.fill()
		for left := stands(d.r); len(left) > 0; left = stands(d.r) {
			went := false
			for _, i := range rnd.Perm(len(left)) {
				if plan, e := d.r.Plan(left[i]); e == api.OK {
					carryOut(t, d.r, left[i], plan)
					went = true
					break
				}
			}
			if !went {
				t.Fatalf("%v: none of %v can be brought out", depths, left)
			}
		}
	}
}

// scribble writes over a list, spare room too.
func scribble[T any](list []T, with T) {
	room := list[:cap(list)]
	for i := range room {
		room[i] = with
	}
}

// span is the memory of a list, spare room too.
type span struct {
	from, to uintptr
}

func spanOf[T any](list []T) span {
	from := uintptr(unsafe.Pointer(unsafe.SliceData(list)))
	var one T
	return span{from, from + uintptr(cap(list))*unsafe.Sizeof(one)}
}

func (s span) overlaps(o span) bool { return s.from < o.to && o.from < s.to }

func TestP12_3_DepthsStayAndAreNotKept(t *testing.T) {
	for at, depths := range racks() {
		// With spare room, and with a neighbour on each side.
		all := append(append([]int{77}, depths...), 77, 77)
		handed := all[1 : 1+len(depths) : len(all)]
		were := slices.Clone(all)
		r := newRack(t, handed)
		if !slices.Equal(all, were) {
			t.Fatalf("%v became %v", were, all)
		}
		scribble(all, 1)
		d := &double{t, r, newWords(depths)}
		c := chance{rand.New(rand.NewSource(int64(5000 + at)))}
		for i := range 200 {
			scribble(all, i%9)
			d.call(c.op(d, i/60%2 == 0))
			d.look()
		}
		for i := range all {
			if all[i] != 199%9 {
				t.Fatalf("the list of depths became %v", all)
			}
		}
	}
}

func TestP12_3_WrongDepthsStay(t *testing.T) {
	for _, depths := range [][]int{{}, {9}, {1, 0}, {8, -1, 8}, like(1, 33)} {
		all := append(slices.Clone(depths), 77, 77)
		were := slices.Clone(all)
		New(all[:len(depths)])
		if !slices.Equal(all, were) {
			t.Fatalf("%v became %v", were, all)
		}
	}
}

// TestP12_3_AnswersAreNewMemory writes over each answer, and holds the rack and the answers behind it against the words.
func TestP12_3_AnswersAreNewMemory(t *testing.T) {
	for at, depths := range racks() {
		run(t, depths, 100, 6000+at, func(d *double, o op) {
			d.call(o)
			var spans []span
			var plans [][]Move
			var lanes [][]int
			for range 2 {
				for lane := range depths {
					lanes = append(lanes, d.r.Lane(lane))
					spans = append(spans, spanOf(lanes[len(lanes)-1]))
				}
				for _, tote := range d.w.totes() {
					plan, _ := d.r.Plan(tote)
					plans = append(plans, plan)
					spans = append(spans, spanOf(plan))
				}
			}
			for i, s := range spans {
				for _, other := range spans[:i] {
					if s.overlaps(other) {
						t.Fatalf("%v: two answers share memory", depths)
					}
				}
			}
			for _, plan := range plans {
				scribble(plan, Move{29, 0, 0})
			}
			for _, totes := range lanes {
				scribble(totes, 29)
			}
			d.same()
		})
	}
}

// TestP12_3_AnswersStayAsTheyWere keeps answers, and looks whether later calls change them.
func TestP12_3_AnswersStayAsTheyWere(t *testing.T) {
	for at, depths := range racks() {
		var totes, totesWere [][]int
		var plans, plansWere [][]Move
		run(t, depths, 300, 7000+at, func(d *double, o op) {
			r := d.call(o)
			list := d.r.Lane(at % len(depths))
			totes, totesWere = append(totes, list, r.totes), append(totesWere, slices.Clone(list), slices.Clone(r.totes))
			plans, plansWere = append(plans, r.moves), append(plansWere, slices.Clone(r.moves))
		})
		for i := range totes {
			if !slices.Equal(totes[i], totesWere[i]) {
				t.Fatalf("%v was answered, and now it is %v", totesWere[i], totes[i])
			}
		}
		for i := range plans {
			if !slices.Equal(plans[i], plansWere[i]) {
				t.Fatalf("%v was answered, and now it is %v", plansWere[i], plans[i])
			}
		}
	}
}

// TestP12_3_SpareRoomIsNotTheRacks appends to answers, where a piece of a lane itself would have slots left.
func TestP12_3_SpareRoomIsNotTheRacks(t *testing.T) {
	d := stand(t, []int{8, 8}, []int{1, 2, 3})
	totes := d.r.Lane(0)
	plan, _ := d.r.Plan(1)
	_, _ = append(totes, 9, 9), append(plan, out(9, 9))
	_, _ = append(d.r.Lane(1), 9, 9), append(d.r.Lane(2), 9, 9)
	d.bring(4, 0)
	d.bring(5, 1)
	d.holds(11, []int{1, 2, 3, 4}, []int{5})
	if !slices.Equal(totes, []int{1, 2, 3}) || !slices.Equal(plan, []Move{move(3, 0, 1), move(2, 0, 1), out(1, 0)}) {
		t.Errorf("the answers became %v and %v", totes, plan)
	}
}

func TestP7_TwoRacksShareNothing(t *testing.T) {
	for at, depths := range racks() {
		c := chance{rand.New(rand.NewSource(int64(8000 + at)))}
		a, b := newDouble(t, depths...), newDouble(t, depths...)
		for i := range 300 {
			a.call(c.op(a, i/60%2 == 0))
			b.call(c.op(b, i/50%2 == 0))
			a.look()
			b.look()
		}
	}
}

// TestP7_AskingChangesNothing has two racks, and asks the one alone between the calls.
func TestP7_AskingChangesNothing(t *testing.T) {
	for at, depths := range racks() {
		quiet := newRack(t, depths)
		run(t, depths, 300, 9000+at, func(d *double, o op) {
			d.same()
			if got, want := o.onRack(quiet), d.call(o); !got.same(want) {
				t.Fatalf("%v: %v, and %v where nothing was asked", o, want, got)
			}
		})
	}
}

func TestP6_NoCallPanics(t *testing.T) {
	numbers := append(outside(), 0, 1, 2, 7, 29, 30, 31, 32)
	for _, a := range numbers {
		for _, b := range numbers {
			New([]int{a, b})
		}
	}
	for _, depths := range [][]int{{1}, {2, 1}, {8, 8, 8}, like(8, 32)} {
		d := newDouble(t, depths...)
		for _, a := range numbers {
			d.call(putOp(a))
			d.call(planOp(a))
			d.call(whereOp(a))
			d.call(laneOp(a))
			for _, b := range numbers {
				for _, tote := range numbers {
					d.call(doOp(tote, a, b))
				}
			}
		}
		d.same()
	}
}
