package lane

import (
	"fmt"
	"math"
	"math/rand"
	"slices"
	"testing"
	"unsafe"

	"stillage/api"
)

// byWords is a lane as the chapter's words have it, slow and plain, and apart from the program: its totes stand in a
// list that begins at the mouth, made anew by each change.
type byWords struct {
	depth     int
	fromMouth []int
}

func (w *byWords) push(tote int) api.Errno {
	switch {
	case tote <= 0 || tote >= 31:
		return api.ErrRange
	case slices.Contains(w.fromMouth, tote):
		return api.ErrTwice
	case len(w.fromMouth) == w.depth:
		return api.ErrFull
	}
	w.fromMouth = append([]int{tote}, w.fromMouth...)
	return api.OK
}

func (w *byWords) pop() (int, api.Errno) {
	if len(w.fromMouth) == 0 {
		return 0, api.ErrNone
	}
	first := w.fromMouth[0]
	w.fromMouth = slices.Clone(w.fromMouth[1:])
	return first, api.OK
}

func (w *byWords) take(tote int) api.Errno {
	if !slices.Contains(w.fromMouth, tote) {
		return api.ErrTote
	}
	if w.fromMouth[0] != tote {
		return api.ErrBlocked
	}
	w.fromMouth = slices.Clone(w.fromMouth[1:])
	return api.OK
}

func (w *byWords) ahead(tote int) ([]int, api.Errno) {
	var between []int
	for _, other := range w.fromMouth {
		if other == tote {
			return between, api.OK
		}
		between = append(between, other)
	}
	return nil, api.ErrTote
}

func (w *byWords) room() int {
	room := 0
	for slot := range w.depth {
		if slot >= len(w.fromMouth) {
			room++
		}
	}
	return room
}

func (w *byWords) totes() []int {
	list := slices.Clone(w.fromMouth)
	slices.Reverse(list)
	return list
}

// op is a call of a lane.
type op struct {
	name string
	tote int
}

func pushOp(tote int) op  { return op{"Push", tote} }
func popOp() op           { return op{"Pop", 0} }
func takeOp(tote int) op  { return op{"Take", tote} }
func aheadOp(tote int) op { return op{"Ahead", tote} }
func roomOp() op          { return op{"Room", 0} }
func totesOp() op         { return op{"Totes", 0} }

// result is what a call answers.
type result struct {
	n    int
	list []int
	e    api.Errno
}

func (r result) same(o result) bool {
	return r.n == o.n && r.e == o.e && slices.Equal(r.list, o.list)
}

func (o op) onLane(l *Lane) (r result) {
	switch o.name {
	case "Push":
		r.e = l.Push(o.tote)
	case "Pop":
		r.n, r.e = l.Pop()
	case "Take":
		r.e = l.Take(o.tote)
	case "Ahead":
		r.list, r.e = l.Ahead(o.tote)
	case "Room":
		r.n = l.Room()
	case "Totes":
		r.list = l.Totes()
	}
	return r
}

func (o op) onWords(w *byWords) (r result) {
	switch o.name {
	case "Push":
		r.e = w.push(o.tote)
	case "Pop":
		r.n, r.e = w.pop()
	case "Take":
		r.e = w.take(o.tote)
	case "Ahead":
		r.list, r.e = w.ahead(o.tote)
	case "Room":
		r.n = w.room()
	case "Totes":
		r.list = w.totes()
	}
	return r
}

// outside are numbers that are neither totes nor depths.
func outside() []int {
	return []int{0, -1, -2, -8, -30, 31, 32, 256, 257, 1 << 16, 1 << 32, 1<<32 + 1, math.MinInt, math.MinInt + 1, math.MaxInt - 1, math.MaxInt}
}

func newLane(t testing.TB, depth int) *Lane {
	t.Helper()
	l, e := New(depth)
	if l == nil || e != api.OK {
		t.Fatalf("New(%d): %v, %d", depth, l, e)
	}
	return l
}

// double has a lane and its slow form side by side, and holds each call of the one against the other.
type double struct {
	t testing.TB
	l *Lane
	w *byWords
}

func newDouble(t testing.TB, depth int) *double {
	t.Helper()
	return &double{t, newLane(t, depth), &byWords{depth: depth}}
}

func (d *double) call(o op) result {
	d.t.Helper()
	before := d.w.totes()
	got, want := o.onLane(d.l), o.onWords(d.w)
	if !got.same(want) {
		d.t.Fatalf("depth %d, %v: %v: %v, not %v", d.w.depth, before, o, got, want)
	}
	return got
}

// same holds all that can be asked of the lane against the words.
func (d *double) same() {
	d.t.Helper()
	d.call(roomOp())
	d.call(totesOp())
	for tote := -1; tote <= 32; tote++ {
		d.call(aheadOp(tote))
	}
}

// want calls, and holds the answer against one that the test has written out.
func (d *double) want(o op, r result) {
	d.t.Helper()
	if got := d.call(o); !got.same(r) {
		d.t.Fatalf("%v: %v, not %v", o, got, r)
	}
	d.same()
}

func (d *double) push(totes ...int) {
	d.t.Helper()
	for _, tote := range totes {
		d.want(pushOp(tote), result{})
	}
}

func (d *double) pop(totes ...int) {
	d.t.Helper()
	for _, tote := range totes {
		d.want(popOp(), result{n: tote})
	}
}

func (d *double) take(totes ...int) {
	d.t.Helper()
	for _, tote := range totes {
		d.want(takeOp(tote), result{})
	}
}

func (d *double) ahead(tote int, totes ...int) {
	d.t.Helper()
	d.want(aheadOp(tote), result{list: totes})
}

func (d *double) holds(room int, totes ...int) {
	d.t.Helper()
	d.want(roomOp(), result{n: room})
	d.want(totesOp(), result{list: totes})
}

// refused wants an error, with nothing beside it and nothing changed.
func (d *double) refused(o op, e api.Errno) {
	d.t.Helper()
	room, totes := d.l.Room(), d.l.Totes()
	d.want(o, result{e: e})
	if d.l.Room() != room || !slices.Equal(d.l.Totes(), totes) {
		d.t.Fatalf("%v was refused, but %v, %d is now %v, %d", o, totes, room, d.l.Totes(), d.l.Room())
	}
}

// upTo is the list of the numbers from 1 to n; downFrom is the same, the other way round.
func upTo(n int) []int {
	var list []int
	for i := range n {
		list = append(list, i+1)
	}
	return list
}

func downFrom(n int) []int {
	list := upTo(n)
	slices.Reverse(list)
	return list
}

func TestP11_1_NewRefusesWhatIsOutside(t *testing.T) {
	for _, depth := range append(outside(), 9, 10, 16, 30) {
		if l, e := New(depth); l != nil || e != api.ErrRange {
			t.Errorf("New(%d): %v, %d", depth, l, e)
		}
	}
}

func TestP11_1_NewIsEmpty(t *testing.T) {
	for depth := 1; depth <= 8; depth++ {
		d := newDouble(t, depth)
		d.holds(depth)
		d.refused(popOp(), api.ErrNone)
		for tote := range 32 {
			d.refused(takeOp(tote), api.ErrTote)
			d.refused(aheadOp(tote), api.ErrTote)
		}
	}
}

func TestP11_1_Example(t *testing.T) {
	d := newDouble(t, 2)
	d.push(1, 2)
	d.refused(pushOp(3), api.ErrFull)
	d.ahead(1, 2)
	d.refused(takeOp(1), api.ErrBlocked)
	d.pop(2)
	d.take(1)
	d.holds(2)
}

func TestP11_1_FirstAndLastTote(t *testing.T) {
	for depth := 2; depth <= 8; depth++ {
		d := newDouble(t, depth)
		d.push(1, 30)
		d.holds(depth-2, 1, 30)
		d.ahead(1, 30)
		d.ahead(30)
		d.refused(takeOp(1), api.ErrBlocked)
		d.take(30)
		d.pop(1)
		d.push(30, 1)
		d.take(1)
		d.pop(30)
	}
	single := newDouble(t, 1)
	for _, tote := range []int{1, 30} {
		single.push(tote)
		single.holds(0, tote)
		single.ahead(tote)
		single.refused(pushOp(31-tote), api.ErrFull)
		single.take(tote)
		single.push(tote)
		single.pop(tote)
	}
}

func TestP11_1_EachTote(t *testing.T) {
	d := newDouble(t, 1)
	for tote := 1; tote <= 30; tote++ {
		d.push(tote)
		d.pop(tote)
		d.push(tote)
		d.take(tote)
	}
}

func TestP11_1_FilledAndEmptiedAgainAndAgain(t *testing.T) {
	for depth := 1; depth <= 8; depth++ {
		d := newDouble(t, depth)
		for range 40 {
			d.push(upTo(depth)...)
			d.holds(0, upTo(depth)...)
			d.refused(pushOp(30), api.ErrFull)
			d.pop(downFrom(depth)...)
			d.holds(depth)
			d.refused(popOp(), api.ErrNone)
			d.push(downFrom(depth)...)
			d.take(upTo(depth)...)
			d.holds(depth)
			d.refused(takeOp(1), api.ErrTote)
		}
	}
}

func TestP11_1_RoomGoesDownAndUp(t *testing.T) {
	for depth := 1; depth <= 8; depth++ {
		d := newDouble(t, depth)
		for i := range depth {
			d.holds(depth-i, upTo(i)...)
			d.push(i + 1)
		}
		for i := depth; i > 0; i-- {
			d.holds(depth-i, upTo(i)...)
			d.pop(i)
		}
		d.holds(depth)
	}
}

func TestP11_1_AheadFromTheMouthToTheInnermost(t *testing.T) {
	for depth := 1; depth <= 8; depth++ {
		d := newDouble(t, depth)
		d.push(upTo(depth)...)
		d.ahead(depth)
		d.ahead(1, downFrom(depth)[:depth-1]...)
		for tote := 1; tote <= depth; tote++ {
			d.ahead(tote, downFrom(depth)[:depth-tote]...)
		}
		d.holds(0, upTo(depth)...)
	}
}

func TestP11_1_TakeNextToTheMouthAlone(t *testing.T) {
	for depth := 2; depth <= 8; depth++ {
		d := newDouble(t, depth)
		d.push(upTo(depth)...)
		for last := depth; last >= 1; last-- {
			for behind := 1; behind < last; behind++ {
				d.refused(takeOp(behind), api.ErrBlocked)
			}
			for gone := last + 1; gone <= depth; gone++ {
				d.refused(takeOp(gone), api.ErrTote)
				d.refused(aheadOp(gone), api.ErrTote)
			}
			d.take(last)
		}
	}
}

func TestP11_1_AToteThatWentComesAgain(t *testing.T) {
	for depth := 2; depth <= 8; depth++ {
		d := newDouble(t, depth)
		d.push(5, 6)
		d.pop(6)
		d.refused(takeOp(6), api.ErrTote)
		d.refused(aheadOp(6), api.ErrTote)
		d.push(6)
		d.refused(pushOp(6), api.ErrTwice)
		d.take(6)
		d.refused(takeOp(6), api.ErrTote)
		d.take(5)
		// In another slot than it had.
		d.push(6, 5)
		d.holds(depth-2, 6, 5)
		d.ahead(6, 5)
	}
}

func TestP11_1_PushOfWhatIsNoTote(t *testing.T) {
	for depth := 1; depth <= 8; depth++ {
		d := newDouble(t, depth)
		for count := 0; count <= depth; count++ {
			for _, tote := range outside() {
				d.refused(pushOp(tote), api.ErrRange)
			}
			if count < depth {
				d.push(30 - count)
			}
		}
	}
}

func TestP11_1_PushOfOneThatStandsThere(t *testing.T) {
	for depth := 1; depth <= 8; depth++ {
		d := newDouble(t, depth)
		for count := 1; count <= depth; count++ {
			d.push(count)
			for tote := 1; tote <= count; tote++ {
				d.refused(pushOp(tote), api.ErrTwice)
			}
		}
		d.holds(0, upTo(depth)...)
	}
}

func TestP11_1_PushIntoAFullLane(t *testing.T) {
	for depth := 1; depth <= 8; depth++ {
		d := newDouble(t, depth)
		d.push(upTo(depth)...)
		for tote := depth + 1; tote <= 30; tote++ {
			d.refused(pushOp(tote), api.ErrFull)
		}
		d.pop(depth)
		d.push(30)
		d.refused(pushOp(depth), api.ErrFull)
	}
}

func TestP11_1_TakeAndAheadOfWhatIsNotThere(t *testing.T) {
	for depth := 1; depth <= 8; depth++ {
		d := newDouble(t, depth)
		for count := 0; count <= depth; count++ {
			for _, tote := range append(outside(), 9, 15, 29, 30) {
				d.refused(takeOp(tote), api.ErrTote)
				d.refused(aheadOp(tote), api.ErrTote)
			}
			if count < depth {
				d.push(count + 1)
			}
		}
	}
}

// changes are the calls that may change a lane, of so many totes and of one that is none.
func changes(totes int) []op {
	ops := []op{popOp()}
	for tote := range totes + 1 {
		ops = append(ops, pushOp(tote), takeOp(tote))
	}
	return ops
}

// everyList calls f with every list of so many of the calls.
func everyList(ops []op, length int, f func([]op)) {
	list := make([]op, length)
	var fill func(at int)
	fill = func(at int) {
		if at == length {
			f(list)
			return
		}
		for _, o := range ops {
			list[at] = o
			fill(at + 1)
		}
	}
	fill(0)
}

func TestP11_1_EveryShortListOfCalls(t *testing.T) {
	for depth := 1; depth <= 3; depth++ {
		everyList(changes(3), 5, func(list []op) {
			d := newDouble(t, depth)
			for _, o := range list {
				d.call(o)
			}
			d.call(roomOp())
			d.call(totesOp())
			for tote := range 5 {
				d.call(aheadOp(tote))
			}
		})
	}
}

// chanceOp is a call by chance, seldom a wrong one, so that lanes of every depth get full, and empty.
func chanceOp(rnd *rand.Rand, d *double, filling bool) op {
	tote := 1 + rnd.Intn(30)
	if stand := d.w.fromMouth; len(stand) > 0 && rnd.Intn(3) == 0 {
		tote = stand[rnd.Intn(len(stand))]
	}
	if rnd.Intn(20) == 0 {
		wrong := outside()
		tote = wrong[rnd.Intn(len(wrong))]
	}
	switch rnd.Intn(8) {
	case 0:
		return pushOp(tote)
	case 1:
		return popOp()
	case 2:
		return takeOp(tote)
	case 3:
		return aheadOp(tote)
	case 4:
		return roomOp()
	case 5:
		return totesOp()
	}
	if filling {
		return pushOp(tote)
	}
	if stand := d.w.fromMouth; len(stand) > 0 && rnd.Intn(2) == 0 {
		return takeOp(stand[0])
	}
	return popOp()
}

// chanceRun calls f with a double of a depth and call by call what comes by chance, now filling it, now emptying it.
func chanceRun(t *testing.T, depth, calls, seed int, f func(d *double, o op)) {
	t.Helper()
	rnd := rand.New(rand.NewSource(int64(seed)))
	d := newDouble(t, depth)
	for i := range calls {
		f(d, chanceOp(rnd, d, i/30%2 == 0))
	}
}

func TestP11_1_LongListsOfCalls(t *testing.T) {
	for depth := 1; depth <= 8; depth++ {
		answered := map[string]int{}
		for run := range 5 {
			chanceRun(t, depth, 3000, 100*depth+run, func(d *double, o op) {
				r := d.call(o)
				d.same()
				answered[fmt.Sprint(o.name, " ", int(r.e))]++
			})
		}
		ways := []string{"Push 0", "Push 1", "Push 2", "Push 5", "Pop 0", "Pop 4", "Take 0", "Take 160", "Ahead 0", "Ahead 160", "Room 0", "Totes 0"}
		if depth > 1 {
			ways = append(ways, "Take 110")
		}
		for _, way := range ways {
			if answered[way] < 10 {
				t.Errorf("depth %d: %s was answered %d times", depth, way, answered[way])
			}
		}
	}
}

func TestP11_1_WhatIsRefusedChangesNothing(t *testing.T) {
	for depth := 1; depth <= 8; depth++ {
		chanceRun(t, depth, 3000, 1000+depth, func(d *double, o op) {
			room, totes := d.l.Room(), d.l.Totes()
			r := o.onLane(d.l)
			if r.e == api.OK {
				o.onWords(d.w)
				return
			}
			if r.n != 0 || len(r.list) != 0 {
				t.Fatalf("%v: %v", o, r)
			}
			if d.l.Room() != room || !slices.Equal(d.l.Totes(), totes) {
				t.Fatalf("%v: %d: %v became %v", o, r.e, totes, d.l.Totes())
			}
			d.same()
		})
	}
}

// TestP11_2_WhatCameLastGoesFirst knows of a lane only what was pushed and went.
func TestP11_2_WhatCameLastGoesFirst(t *testing.T) {
	for depth := 1; depth <= 8; depth++ {
		var came []int
		chanceRun(t, depth, 4000, 2000+depth, func(d *double, o op) {
			r := o.onLane(d.l)
			o.onWords(d.w)
			if r.e != api.OK {
				return
			}
			last := len(came) - 1
			switch o.name {
			case "Push":
				came = append(came, o.tote)
			case "Pop":
				if r.n != came[last] {
					t.Fatalf("%v came, and %d went", came, r.n)
				}
				came = came[:last]
			case "Take":
				if o.tote != came[last] {
					t.Fatalf("%v came, and %d went", came, o.tote)
				}
				came = came[:last]
			}
		})
	}
}

// eachOrder calls f with every order of a list.
func eachOrder(list []int, f func([]int)) {
	var swap func(at int)
	swap = func(at int) {
		if at == len(list) {
			f(slices.Clone(list))
			return
		}
		for i := at; i < len(list); i++ {
			list[at], list[i] = list[i], list[at]
			swap(at + 1)
			list[at], list[i] = list[i], list[at]
		}
	}
	swap(0)
}

func TestP11_2_EveryOrderGoesTheOtherWayRound(t *testing.T) {
	for depth := 1; depth <= 6; depth++ {
		eachOrder(upTo(depth), func(totes []int) {
			l := newLane(t, depth)
			for _, tote := range totes {
				if e := l.Push(tote); e != api.OK {
					t.Fatalf("%v: Push(%d): %d", totes, tote, e)
				}
			}
			for i := depth - 1; i >= 0; i-- {
				if tote, e := l.Pop(); tote != totes[i] || e != api.OK {
					t.Fatalf("%v: Pop: %d, %d", totes, tote, e)
				}
			}
		})
	}
}

// popAhead pops all that Ahead tells of a tote, and takes the tote then.
func popAhead(t *testing.T, l *Lane, tote int) {
	t.Helper()
	was := l.Totes()
	ahead, e := l.Ahead(tote)
	if e != api.OK {
		t.Fatalf("%v: Ahead(%d): %d", was, tote, e)
	}
	for _, other := range ahead {
		if e := l.Take(tote); e != api.ErrBlocked {
			t.Fatalf("%v: Take(%d) with %d ahead: %d", was, tote, other, e)
		}
		if got, e := l.Pop(); got != other || e != api.OK {
			t.Fatalf("%v: Ahead(%d) tells %v, but Pop: %d, %d", was, tote, ahead, got, e)
		}
	}
	if e := l.Take(tote); e != api.OK {
		t.Fatalf("%v: Take(%d), all of %v popped: %d", was, tote, ahead, e)
	}
	if left := l.Totes(); !slices.Equal(left, was[:len(was)-len(ahead)-1]) {
		t.Fatalf("%v: %d and %v went, and %v is left", was, tote, ahead, left)
	}
}

func TestP11_2_WhoPopsAllAheadMayTakeIt(t *testing.T) {
	for depth := 1; depth <= 8; depth++ {
		for count := 1; count <= depth; count++ {
			for tote := 1; tote <= count; tote++ {
				l := newLane(t, depth)
				for _, other := range upTo(count) {
					l.Push(other)
				}
				popAhead(t, l, tote)
			}
		}
	}
}

func TestP11_2_WhoPopsAllAheadMayTakeItAgainAndAgain(t *testing.T) {
	for depth := 1; depth <= 8; depth++ {
		rnd := rand.New(rand.NewSource(int64(3000 + depth)))
		l := newLane(t, depth)
		for range 500 {
			for _, tote := range rnd.Perm(30)[:rnd.Intn(2*depth)] {
				l.Push(tote + 1)
			}
			if totes := l.Totes(); len(totes) > 0 {
				popAhead(t, l, totes[rnd.Intn(len(totes))])
			}
		}
	}
}

// scribble writes over a list, spare room too.
func scribble(list []int) {
	room := list[:cap(list)]
	for i := range room {
		room[i] = 29
	}
}

// overlap tells whether two lists share memory, spare room too.
func overlap(a, b []int) bool {
	if cap(a) == 0 || cap(b) == 0 {
		return false
	}
	x, y := uintptr(unsafe.Pointer(unsafe.SliceData(a))), uintptr(unsafe.Pointer(unsafe.SliceData(b)))
	return x < y+uintptr(cap(b))*unsafe.Sizeof(0) && y < x+uintptr(cap(a))*unsafe.Sizeof(0)
}

// answers are the lists that a lane answers now: its totes, and what is ahead of each.
func answers(l *Lane) [][]int {
	lists := [][]int{l.Totes()}
	for _, tote := range lists[0] {
		ahead, _ := l.Ahead(tote)
		lists = append(lists, ahead)
	}
	return lists
}

// TestP11_3_AnswersAreNewMemory writes over each answer, and holds the lane and the answers behind it against the words.
func TestP11_3_AnswersAreNewMemory(t *testing.T) {
	for depth := 1; depth <= 8; depth++ {
		chanceRun(t, depth, 1500, 4000+depth, func(d *double, o op) {
			lists := append([][]int{d.call(o).list}, answers(d.l)...)
			lists = append(lists, answers(d.l)...)
			for at, list := range lists {
				for _, other := range lists[:at] {
					if overlap(list, other) {
						t.Fatalf("%v: %v and %v share memory", o, list, other)
					}
				}
			}
			for _, list := range lists {
				scribble(list)
				d.same()
			}
		})
	}
}

// TestP11_3_AnswersStayAsTheyWere keeps answers, and looks whether later calls change them.
func TestP11_3_AnswersStayAsTheyWere(t *testing.T) {
	for depth := 1; depth <= 8; depth++ {
		var lists, were [][]int
		chanceRun(t, depth, 1000, 5000+depth, func(d *double, o op) {
			for _, list := range append(answers(d.l), d.call(o).list) {
				lists, were = append(lists, list), append(were, slices.Clone(list))
			}
		})
		for i := range lists {
			if !slices.Equal(lists[i], were[i]) {
				t.Fatalf("%v was answered, and now it is %v", were[i], lists[i])
			}
		}
	}
}

// TestP11_3_SpareRoomIsNotTheLanes appends to answers, where a piece of the lane itself would have slots left.
func TestP11_3_SpareRoomIsNotTheLanes(t *testing.T) {
	d := newDouble(t, 8)
	_ = append(d.l.Totes(), 9, 9)
	d.push(1, 2, 3)
	totes := d.l.Totes()
	ahead, _ := d.l.Ahead(1)
	_, _ = append(totes, 9, 9), append(ahead, 9, 9)
	d.push(4, 5)
	d.holds(3, 1, 2, 3, 4, 5)
	if !slices.Equal(totes, []int{1, 2, 3}) || !slices.Equal(ahead, []int{3, 2}) {
		t.Errorf("the answers became %v and %v", totes, ahead)
	}
}

func TestP7_TwoLanesShareNothing(t *testing.T) {
	for depth := 1; depth <= 8; depth++ {
		rnd := rand.New(rand.NewSource(int64(6000 + depth)))
		a, b := newDouble(t, depth), newDouble(t, depth)
		for i := range 1500 {
			a.call(chanceOp(rnd, a, i/30%2 == 0))
			b.call(chanceOp(rnd, b, i/20%2 == 0))
			a.same()
			b.same()
		}
	}
}

// TestP7_AskingChangesNothing has two lanes, and asks the one alone between the calls.
func TestP7_AskingChangesNothing(t *testing.T) {
	for depth := 1; depth <= 8; depth++ {
		quiet := newLane(t, depth)
		chanceRun(t, depth, 1500, 7000+depth, func(d *double, o op) {
			d.same()
			if got, want := o.onLane(quiet), d.call(o); !got.same(want) {
				t.Fatalf("%v: %v, and %v where nothing was asked", o, want, got)
			}
		})
	}
}

func TestP6_NoCallPanics(t *testing.T) {
	numbers := append(outside(), 1, 2, 7, 8, 9, 29, 30)
	for depth := 1; depth <= 8; depth++ {
		d := newDouble(t, depth)
		for _, a := range numbers {
			for _, b := range numbers {
				for _, o := range []op{pushOp(a), takeOp(b), aheadOp(a), pushOp(b), takeOp(a), aheadOp(b)} {
					d.call(o)
				}
			}
			d.call(popOp())
			d.call(popOp())
			d.same()
		}
	}
}
