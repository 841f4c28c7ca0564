package claim

import (
	"fmt"
	"math"
	"math/rand"
	"slices"
	"testing"
	"unsafe"

	"stillage/api"
)

// byWords is a table as the chapter's words have it, slow and plain, and apart from the program: who holds what is a
// set of pairs, and a claim keeps its nodes as they were named.
type byWords struct {
	n     int
	held  map[pair]bool
	waits []wish
}

type pair struct{ tote, node int }

type wish struct {
	tote  int
	nodes []int
}

func (w *byWords) isTote(tote int) bool { return 1 <= tote && tote <= 30 }
func (w *byWords) isNode(node int) bool { return 0 <= node && node <= w.n-1 }

func (w *byWords) holder(node int) int {
	for p := range w.held {
		if p.node == node {
			return p.tote
		}
	}
	return 0
}

func (w *byWords) heldBy(tote int) []int {
	var nodes []int
	for p := range w.held {
		if p.tote == tote {
			nodes = append(nodes, p.node)
		}
	}
	slices.Sort(nodes)
	return nodes
}

func (w *byWords) waiting() []int {
	var totes []int
	for _, c := range w.waits {
		totes = append(totes, c.tote)
	}
	return totes
}

// may tells whether the claim at a place among those that wait may be granted.
func (w *byWords) may(at int) bool {
	for _, node := range w.waits[at].nodes {
		if h := w.holder(node); h != 0 && h != w.waits[at].tote {
			return false
		}
		for _, ahead := range w.waits[:at] {
			if slices.Contains(ahead.nodes, node) {
				return false
			}
		}
	}
	return true
}

// firstThatMay is the place of the first claim that may be granted, or -1.
func (w *byWords) firstThatMay() int {
	for at := range w.waits {
		if w.may(at) {
			return at
		}
	}
	return -1
}

func (w *byWords) take(at int) {
	c := w.waits[at]
	for _, node := range c.nodes {
		w.held[pair{c.tote, node}] = true
	}
	w.gone(at)
}

func (w *byWords) gone(at int) {
	w.waits = append(slices.Clone(w.waits[:at]), w.waits[at+1:]...)
}

func (w *byWords) grants() []int {
	var totes []int
	for at := w.firstThatMay(); at >= 0; at = w.firstThatMay() {
		totes = append(totes, w.waits[at].tote)
		w.take(at)
	}
	return totes
}

func (w *byWords) claim(tote int, nodes []int) (bool, api.Errno) {
	if !w.isTote(tote) || len(nodes) == 0 {
		return false, api.ErrRange
	}
	for _, node := range nodes {
		if !w.isNode(node) {
			return false, api.ErrRange
		}
	}
	if slices.Contains(w.waiting(), tote) {
		return false, api.ErrTwice
	}
	w.waits = append(slices.Clone(w.waits), wish{tote, slices.Clone(nodes)})
	last := len(w.waits) - 1
	if !w.may(last) {
		return false, api.OK
	}
	w.take(last)
	return true, api.OK
}

func (w *byWords) release(tote, node int) ([]int, api.Errno) {
	if !w.isTote(tote) || !w.isNode(node) {
		return nil, api.ErrRange
	}
	if !w.held[pair{tote, node}] {
		return nil, api.ErrNone
	}
	delete(w.held, pair{tote, node})
	return w.grants(), api.OK
}

func (w *byWords) drop(tote int) ([]int, api.Errno) {
	if !w.isTote(tote) {
		return nil, api.ErrRange
	}
	at := slices.Index(w.waiting(), tote)
	if at < 0 {
		return nil, api.ErrNone
	}
	w.gone(at)
	return w.grants(), api.OK
}

func (w *byWords) seize(tote, node int) api.Errno {
	if !w.isTote(tote) || !w.isNode(node) {
		return api.ErrRange
	}
	if h := w.holder(node); h != 0 && h != tote {
		return api.ErrHeld
	}
	w.held[pair{tote, node}] = true
	return api.OK
}

func (w *byWords) copied() *byWords {
	held := map[pair]bool{}
	for p := range w.held {
		held[p] = true
	}
	return &byWords{w.n, held, slices.Clone(w.waits)}
}

// state is a text of all that a table keeps, as its words have it: two tables of one state go on alike. (How often a
// claim names a node is none of it.)
func (w *byWords) state() string {
	s := ""
	for node := range w.n {
		s += fmt.Sprint(w.holder(node), ",")
	}
	for _, c := range w.waits {
		nodes := slices.Clone(c.nodes)
		slices.Sort(nodes)
		s += fmt.Sprint(" ", c.tote, slices.Compact(nodes))
	}
	return s
}

// op is a call that may change a table.
type op struct {
	name       string
	tote, node int
	nodes      []int
}

func claimOp(tote int, nodes ...int) op { return op{name: "Claim", tote: tote, nodes: nodes} }
func releaseOp(tote, node int) op       { return op{name: "Release", tote: tote, node: node} }
func dropOp(tote int) op                { return op{name: "Drop", tote: tote} }
func seizeOp(tote, node int) op         { return op{name: "Seize", tote: tote, node: node} }

// result is what a call answers.
type result struct {
	yes     bool
	granted []int
	e       api.Errno
}

func (r result) same(o result) bool {
	return r.yes == o.yes && r.e == o.e && slices.Equal(r.granted, o.granted)
}

func (o op) onTable(c *Table) (r result) {
	switch o.name {
	case "Claim":
		r.yes, r.e = c.Claim(o.tote, o.nodes)
	case "Release":
		r.granted, r.e = c.Release(o.tote, o.node)
	case "Drop":
		r.granted, r.e = c.Drop(o.tote)
	case "Seize":
		r.e = c.Seize(o.tote, o.node)
	}
	return r
}

func (o op) onWords(w *byWords) (r result) {
	switch o.name {
	case "Claim":
		r.yes, r.e = w.claim(o.tote, o.nodes)
	case "Release":
		r.granted, r.e = w.release(o.tote, o.node)
	case "Drop":
		r.granted, r.e = w.drop(o.tote)
	case "Seize":
		r.e = w.seize(o.tote, o.node)
	}
	return r
}

// outside are numbers that are neither totes nor nodes, whatever the table.
func outside() []int {
	return []int{-1, -2, -30, 64, 65, 256, 1 << 16, 1 << 32, 1<<32 + 1, math.MinInt, math.MinInt + 1, math.MaxInt - 1, math.MaxInt}
}

func newTable(t testing.TB, n int) *Table {
	t.Helper()
	c, e := New(n)
	if c == nil || e != api.OK {
		t.Fatalf("New(%d): %v, %d", n, c, e)
	}
	return c
}

// double has a table and its slow form side by side, and holds each call of the one against the other.
type double struct {
	t testing.TB
	c *Table
	w *byWords
}

func newDouble(t testing.TB, n int) *double {
	t.Helper()
	return &double{t, newTable(t, n), &byWords{n: n, held: map[pair]bool{}}}
}

func (d *double) call(o op) result {
	d.t.Helper()
	before := d.w.state()
	got, want := o.onTable(d.c), o.onWords(d.w)
	if !got.same(want) {
		d.t.Fatalf("%d nodes, %s: %v: %v, not %v", d.w.n, before, o, got, want)
	}
	d.same()
	return got
}

// same holds what can be asked of the table against the words.
func (d *double) same() {
	d.t.Helper()
	for node := -1; node <= d.w.n; node++ {
		if got, want := d.c.Holder(node), d.w.holder(node); got != want {
			d.t.Fatalf("%s: Holder(%d): %d", d.w.state(), node, got)
		}
	}
	for tote := -1; tote <= 31; tote++ {
		if got, want := d.c.Held(tote), d.w.heldBy(tote); !slices.Equal(got, want) {
			d.t.Fatalf("%s: Held(%d): %v", d.w.state(), tote, got)
		}
	}
	if got, want := d.c.Waiting(), d.w.waiting(); !slices.Equal(got, want) {
		d.t.Fatalf("%s: Waiting: %v", d.w.state(), got)
	}
}

// want calls, and holds the answer against one that the test has written out.
func (d *double) want(o op, r result) {
	d.t.Helper()
	if got := d.call(o); !got.same(r) {
		d.t.Fatalf("%v: %v, not %v", o, got, r)
	}
}

func (d *double) yes(tote int, nodes ...int) {
	d.t.Helper()
	d.want(claimOp(tote, nodes...), result{yes: true})
}

func (d *double) no(tote int, nodes ...int) {
	d.t.Helper()
	d.want(claimOp(tote, nodes...), result{})
}

func (d *double) release(tote, node int, granted ...int) {
	d.t.Helper()
	d.want(releaseOp(tote, node), result{granted: granted})
}

func (d *double) drop(tote int, granted ...int) {
	d.t.Helper()
	d.want(dropOp(tote), result{granted: granted})
}

func (d *double) seize(tote, node int) {
	d.t.Helper()
	d.want(seizeOp(tote, node), result{})
}

func (d *double) refused(o op, e api.Errno) {
	d.t.Helper()
	d.want(o, result{e: e})
}

func (d *double) held(tote int, nodes ...int) {
	d.t.Helper()
	if got := d.c.Held(tote); !slices.Equal(got, nodes) {
		d.t.Fatalf("Held(%d): %v, not %v", tote, got, nodes)
	}
}

func (d *double) holders(totes ...int) {
	d.t.Helper()
	for node, tote := range totes {
		if got := d.c.Holder(node); got != tote {
			d.t.Fatalf("Holder(%d): %d, not %d", node, got, tote)
		}
	}
}

func (d *double) waiting(totes ...int) {
	d.t.Helper()
	if got := d.c.Waiting(); !slices.Equal(got, totes) {
		d.t.Fatalf("Waiting: %v, not %v", got, totes)
	}
}

// upTo is the list of the numbers from 0 to n - 1.
func upTo(n int) []int {
	var list []int
	for i := range n {
		list = append(list, i)
	}
	return list
}

func TestP10_1_NewRefusesWhatIsOutside(t *testing.T) {
	for _, n := range append(outside(), 0, 41, 42) {
		if c, e := New(n); c != nil || e != api.ErrRange {
			t.Errorf("New(%d): %v, %d", n, c, e)
		}
	}
}

func TestP10_1_NewIsFree(t *testing.T) {
	for n := 1; n <= 40; n++ {
		d := newDouble(t, n)
		d.same()
		d.waiting()
		d.yes(1, upTo(n)...)
		d.held(1, upTo(n)...)
		d.refused(claimOp(1, n), api.ErrRange)
	}
}

func TestP10_1_Example(t *testing.T) {
	d := newDouble(t, 3)
	d.yes(1, 0, 1)
	d.no(2, 1, 2)
	d.no(3, 2)
	d.waiting(2, 3)
	d.release(1, 1, 2)
	d.holders(1, 2, 2)
	d.waiting(3)
	d.release(2, 2, 3)
	d.holders(1, 2, 3)
	d.waiting()
}

func TestP10_1_ClaimOfWhatItHolds(t *testing.T) {
	d := newDouble(t, 5)
	d.yes(1, 0, 1)
	d.yes(1, 1)
	d.yes(1, 1, 0)
	d.yes(1, 1, 2)
	d.held(1, 0, 1, 2)
	d.yes(2, 3)
	// With more that another one holds: it waits, and keeps what it has.
	d.no(1, 0, 3)
	d.held(1, 0, 1, 2)
	d.waiting(1)
	d.no(3, 0)
	d.release(2, 3, 1)
	d.held(1, 0, 1, 2, 3)
	d.release(1, 0, 3)
	// What it holds already, but one that waits ahead wants it.
	d.no(4, 1)
	d.no(1, 1)
	d.waiting(4, 1)
	d.held(1, 1, 2, 3)
	d.release(1, 2)
	d.release(1, 1, 4)
	d.waiting(1)
	d.release(4, 1, 1)
	d.held(1, 1, 3)
}

func TestP10_1_ClaimThatNamesANodeTwice(t *testing.T) {
	d := newDouble(t, 4)
	d.yes(1, 2, 2)
	d.held(1, 2)
	d.yes(1, 3, 2, 3, 2, 0, 3)
	d.held(1, 0, 2, 3)
	d.no(2, 3, 1, 3, 1, 1)
	d.no(3, 1, 1)
	d.waiting(2, 3)
	d.release(1, 3, 2)
	d.held(2, 1, 3)
	d.release(2, 1, 3)
	d.held(3, 1)
	d.release(2, 3)
	d.refused(releaseOp(2, 3), api.ErrNone)
}

func TestP10_1_ClaimOfALongList(t *testing.T) {
	for _, n := range []int{1, 7, 40} {
		d := newDouble(t, n)
		var long []int
		for i := range 20000 {
			long = append(long, i*3%n)
		}
		d.yes(30, 0)
		d.no(1, long...)
		d.refused(claimOp(2, append(slices.Clone(long), n)...), api.ErrRange)
		d.refused(claimOp(2, append(slices.Clone(long), -1)...), api.ErrRange)
		d.no(2, n-1)
		d.release(30, 0, 1)
		if len(d.c.Held(1)) != n {
			t.Fatalf("Held(1): %v", d.c.Held(1))
		}
		d.waiting(2)
	}
}

func TestP10_1_ClaimBehindOneThatWantsTheSame(t *testing.T) {
	d := newDouble(t, 5)
	d.yes(1, 0)
	d.no(2, 0, 1)
	d.no(3, 1)    // free, but 2 came earlier
	d.no(4, 2, 1) // free, but 2 and 3 came earlier
	d.no(5, 2)    // free, but 4 came earlier
	d.yes(6, 3)   // nobody ahead wants it
	d.waiting(2, 3, 4, 5)
	d.holders(1, 0, 0, 6, 0)
	d.release(1, 0, 2)
	d.waiting(3, 4, 5)
	d.release(2, 0)
	d.release(2, 1, 3)
	d.release(3, 1, 4)
	d.release(4, 1)
	d.release(4, 2, 5)
	d.waiting()
}

func TestP10_1_OneGrantedLetsTheNextBeGranted(t *testing.T) {
	d := newDouble(t, 4)
	d.yes(1, 0, 1, 2, 3)
	for tote := 2; tote <= 8; tote++ {
		d.no(tote, 0, 1, 2, 3)
	}
	for tote := 1; tote <= 7; tote++ {
		d.release(tote, 2)
		d.release(tote, 0)
		d.release(tote, 3)
		d.release(tote, 1, tote+1) // the last one of its nodes
		d.held(tote)
		d.held(tote+1, 0, 1, 2, 3)
	}
	d.waiting()
}

func TestP10_1_ReleaseGrantsOnePassedBy(t *testing.T) {
	d := newDouble(t, 4)
	d.yes(1, 0)
	d.yes(2, 1)
	d.no(3, 0)
	d.no(4, 1)
	d.no(5, 0, 1)
	d.release(2, 1, 4) // 3 waits on
	d.waiting(3, 5)
	d.release(4, 1)
	d.release(1, 0, 3)
	d.release(3, 0, 5)
	d.held(5, 0, 1)
}

func TestP10_1_ReleaseByWhichNobodyIsGranted(t *testing.T) {
	d := newDouble(t, 4)
	d.yes(1, 0, 1, 3)
	d.release(1, 3) // nobody waits
	d.no(2, 0, 1)
	d.no(3, 0)
	d.no(4, 1, 2)
	d.release(1, 0) // 2 lacks another one, and 3 waits behind it
	d.holders(0, 1, 0, 0)
	d.waiting(2, 3, 4)
	d.seize(5, 3)
	d.release(5, 3) // nobody wants it
	d.waiting(2, 3, 4)
	d.release(1, 1, 2)
}

func TestP10_1_DropOfOneThatOthersWaitBehind(t *testing.T) {
	d := newDouble(t, 6)
	d.yes(1, 0)
	d.no(2, 0, 1, 2, 3)
	d.no(3, 3)
	d.no(4, 1, 4)
	d.no(5, 4)
	d.no(6, 0, 2)
	d.no(7, 2)
	d.waiting(2, 3, 4, 5, 6, 7)
	d.drop(2, 3, 4) // in order; 5 waits behind 4's nodes, 6 for 1, 7 behind 6
	d.waiting(5, 6, 7)
	d.holders(1, 4, 0, 3, 4, 0)
	d.drop(6, 7)
	d.drop(5)
	d.waiting()
	d.held(2)
}

func TestP10_1_DropTellsInOrder(t *testing.T) {
	for n := 2; n <= 29; n++ {
		d := newDouble(t, n)
		d.yes(30, 0)
		d.no(29, upTo(n)...)
		// Of the others each wants a node of its own, the totes in falling order, the nodes in no order.
		var granted []int
		for i := 1; i < n && i <= 28; i++ {
			tote := 29 - i
			d.no(tote, 1+(i*7)%(n-1))
			if !slices.ContainsFunc(granted, func(other int) bool { return (29-other)*7%(n-1) == i*7%(n-1) }) {
				granted = append(granted, tote)
			}
		}
		d.drop(29, granted...)
	}
}

func TestP10_1_DropOfTheLast(t *testing.T) {
	d := newDouble(t, 3)
	d.yes(1, 0, 1)
	d.no(2, 0)
	d.no(3, 1)
	d.drop(3)
	d.refused(dropOp(3), api.ErrNone)
	d.no(3, 0, 1) // it may claim again, and comes behind
	d.no(4, 1)
	d.drop(2)
	d.release(1, 0)
	d.release(1, 1, 3)
	d.waiting(4)
}

func TestP10_1_DropKeepsWhatItsToteHolds(t *testing.T) {
	d := newDouble(t, 3)
	d.yes(1, 0)
	d.yes(2, 1)
	d.no(2, 0, 1, 2)
	d.no(3, 1)
	d.drop(2)
	d.held(2, 1)
	d.waiting(3)
	d.release(2, 1, 3)
}

func TestP10_1_SeizeOfAFreeNode(t *testing.T) {
	d := newDouble(t, 3)
	d.seize(1, 1)
	d.holders(0, 1, 0)
	d.seize(1, 1) // it holds it already
	d.held(1, 1)
	d.refused(seizeOp(2, 1), api.ErrHeld)
	d.holders(0, 1, 0)
	d.yes(1, 0)
	d.seize(1, 0) // what it holds by a claim
	d.held(1, 0, 1)
	d.no(2, 1)
	d.release(1, 1, 2)
}

func TestP10_1_SeizeOfANodeThatSomebodyWaitsFor(t *testing.T) {
	d := newDouble(t, 4)
	d.yes(1, 0)
	d.no(2, 0, 1)
	d.no(3, 1, 2)
	d.seize(4, 1) // free, and 2 and 3 wait for it
	d.holders(1, 4, 0, 0)
	d.waiting(2, 3)
	d.release(1, 0) // 2 lacks what 4 seized
	d.waiting(2, 3)
	d.release(4, 1, 2)
	d.release(2, 1, 3)
	d.waiting()
}

func TestP10_1_SeizeByOneThatWaits(t *testing.T) {
	d := newDouble(t, 4)
	d.yes(1, 0)
	d.no(2, 0, 1)
	d.no(3, 1, 2)
	d.seize(3, 1) // what it waits for, and what 2 ahead of it wants
	d.seize(3, 2)
	d.waiting(2, 3)
	d.release(1, 0) // 3 holds what 2 wants, and 2 stands ahead of 3
	d.waiting(2, 3)
	d.drop(2, 3)
	d.held(3, 1, 2)
	d.waiting()
}

func TestP10_1_SeizeOfAllThatItWaitsFor(t *testing.T) {
	d := newDouble(t, 3)
	d.yes(1, 0)
	d.no(2, 0, 1, 2)
	d.seize(2, 1)
	d.seize(2, 2)
	d.refused(seizeOp(2, 0), api.ErrHeld)
	d.waiting(2)
	d.held(2, 1, 2)
	d.release(1, 0, 2)
	d.held(2, 0, 1, 2)
}

func TestP10_1_AToteThatHoldsAndWaits(t *testing.T) {
	d := newDouble(t, 4)
	d.yes(1, 0, 1)
	d.yes(2, 2, 3)
	d.no(1, 2)
	d.no(2, 0) // each waits for the other one
	d.held(1, 0, 1)
	d.held(2, 2, 3)
	d.waiting(1, 2)
	d.release(1, 1) // nobody waits for it
	d.waiting(1, 2)
	d.release(1, 0, 2)
	d.held(2, 0, 2, 3)
	d.release(2, 2, 1)
	d.held(1, 2)
	d.held(2, 0, 3)
}

func TestP10_1_ReleaseOfWhatItWaitsForAgain(t *testing.T) {
	d := newDouble(t, 3)
	d.yes(1, 0)
	d.yes(2, 1)
	d.no(1, 0, 1)
	d.no(3, 0)
	d.release(1, 0) // its own claim is for it, and lacks another one; 3 stands behind it
	d.holders(0, 2, 0)
	d.waiting(1, 3)
	d.release(2, 1, 1)
	d.held(1, 0, 1)
	d.release(1, 0, 3)
}

func TestP10_1_TablesOfOneNode(t *testing.T) {
	d := newDouble(t, 1)
	for tote := 1; tote <= 30; tote++ {
		d.want(claimOp(tote, 0), result{yes: tote == 1})
	}
	for tote := 1; tote <= 29; tote++ {
		d.release(tote, 0, tote+1)
	}
	d.release(30, 0)
	d.holders(0)
	d.refused(claimOp(1, 1), api.ErrRange)
	d.refused(seizeOp(1, 1), api.ErrRange)
	d.refused(releaseOp(1, 1), api.ErrRange)
}

func TestP10_1_TablesOfMostNodes(t *testing.T) {
	d := newDouble(t, 40)
	d.yes(30, upTo(40)...)
	for tote := 1; tote <= 29; tote++ {
		d.no(tote, tote-1, tote+10)
	}
	d.waiting(upTo(30)[1:]...)
	for node := range 40 {
		if node >= 11 && node <= 21 {
			d.release(30, node, node-10)
		} else {
			d.release(30, node)
		}
	}
	d.waiting(upTo(30)[12:]...) // what 12 to 22 want 1 to 11 hold, and 23 to 29 stand behind these
	d.held(1, 0, 11)
	d.held(11, 10, 21)
	d.refused(claimOp(30, 40), api.ErrRange)
	d.seize(30, 39) // 29 waits for it
	d.refused(seizeOp(29, 39), api.ErrHeld)
	d.no(30, 38)
	d.no(1, 0, 11) // it holds both, but 12 wants one of them
	d.release(30, 39)
}

func TestP10_1_WrongTotes(t *testing.T) {
	d := newDouble(t, 4)
	d.yes(1, 0, 1)
	d.yes(30, 3)
	d.no(30, 0)
	d.no(2, 1, 2)
	for _, tote := range append(outside(), 0, 31, 32) {
		for node := -1; node <= 4; node++ {
			d.refused(claimOp(tote, node), api.ErrRange)
			d.refused(releaseOp(tote, node), api.ErrRange)
			d.refused(seizeOp(tote, node), api.ErrRange)
		}
		d.refused(claimOp(tote), api.ErrRange)
		d.refused(claimOp(tote, 0, 1, 2, 3), api.ErrRange)
		d.refused(dropOp(tote), api.ErrRange)
		if got := d.c.Held(tote); len(got) != 0 {
			t.Errorf("Held(%d): %v", tote, got)
		}
	}
	d.release(1, 0, 30)
	d.release(1, 1, 2)
}

func TestP10_1_WrongNodes(t *testing.T) {
	for _, n := range []int{1, 4, 39, 40} {
		d := newDouble(t, n)
		d.yes(1, 0)
		d.no(2, 0)
		for _, node := range append(outside(), n, n+1) {
			for _, tote := range []int{1, 2, 3, 30} {
				d.refused(claimOp(tote, node), api.ErrRange)
				d.refused(claimOp(tote, node, 0), api.ErrRange)
				d.refused(claimOp(tote, 0, n-1, node), api.ErrRange)
				d.refused(releaseOp(tote, node), api.ErrRange)
				d.refused(seizeOp(tote, node), api.ErrRange)
			}
			if got := d.c.Holder(node); got != 0 {
				t.Errorf("Holder(%d) of %d nodes: %d", node, n, got)
			}
		}
		d.waiting(2)
		d.release(1, 0, 2)
	}
}

func TestP10_1_ClaimOfNoNodes(t *testing.T) {
	d := newDouble(t, 2)
	for _, nodes := range [][]int{nil, {}, make([]int, 0, 4)} {
		d.refused(claimOp(1, nodes...), api.ErrRange)
	}
	d.yes(1, 0)
	d.no(2, 0)
	d.refused(claimOp(1), api.ErrRange)
	d.refused(claimOp(2), api.ErrRange) // ahead of ErrTwice
	d.refused(claimOp(2, 2), api.ErrRange)
	d.refused(claimOp(2, 0, -1), api.ErrRange)
	d.waiting(2)
}

func TestP10_1_SecondClaimOfOneThatWaits(t *testing.T) {
	d := newDouble(t, 4)
	d.yes(1, 0, 1)
	d.no(2, 1)
	d.yes(1, 2) // it waits for nothing, so it may claim again
	for _, nodes := range [][]int{{1}, {0}, {2}, {3}, {3, 1}, {3, 3}} {
		d.refused(claimOp(2, nodes...), api.ErrTwice)
	}
	d.held(2)
	d.waiting(2)
	d.release(1, 1, 2)
	d.held(2, 1)
	d.yes(2, 3)
	d.no(2, 0)
	d.refused(claimOp(2, 1), api.ErrTwice) // though it holds it
	d.release(1, 0, 2)
	d.yes(2, 1)
}

func TestP10_1_ReleaseOfWhatItDoesNotHold(t *testing.T) {
	d := newDouble(t, 3)
	d.yes(1, 0)
	d.no(2, 0, 1)
	d.no(3, 1)
	for tote := 1; tote <= 30; tote++ {
		d.refused(releaseOp(tote, 1), api.ErrNone) // free, and waited for
		d.refused(releaseOp(tote, 2), api.ErrNone) // free
		if tote != 1 {
			d.refused(releaseOp(tote, 0), api.ErrNone) // another tote's
		}
	}
	d.waiting(2, 3)
	d.release(1, 0, 2)
	d.refused(releaseOp(1, 0), api.ErrNone)
	d.holders(2, 2, 0)
}

func TestP10_1_DropWhereNoClaimWaits(t *testing.T) {
	d := newDouble(t, 3)
	d.refused(dropOp(1), api.ErrNone)
	d.yes(1, 0)
	d.refused(dropOp(1), api.ErrNone)
	d.no(2, 0)
	d.no(3, 0)
	for _, tote := range []int{1, 4, 30} {
		d.refused(dropOp(tote), api.ErrNone)
	}
	d.release(1, 0, 2)
	d.refused(dropOp(2), api.ErrNone) // granted already
	d.waiting(3)
}

func TestP10_1_SeizeOfWhatAnotherHolds(t *testing.T) {
	d := newDouble(t, 3)
	d.yes(1, 0)
	d.seize(2, 1)
	d.no(3, 0)
	for tote := 1; tote <= 30; tote++ {
		if tote != 1 {
			d.refused(seizeOp(tote, 0), api.ErrHeld)
		}
		if tote != 2 {
			d.refused(seizeOp(tote, 1), api.ErrHeld)
		}
	}
	d.holders(1, 2, 0)
	d.waiting(3)
	d.release(1, 0, 3)
}

// opsOf are all calls of so many totes and nodes, a claim for each set of nodes.
func opsOf(totes, nodes int) []op {
	var list []op
	for tote := 1; tote <= totes; tote++ {
		for set := 1; set < 1<<nodes; set++ {
			var some []int
			for node := range nodes {
				if set>>node&1 == 1 {
					some = append(some, node)
				}
			}
			list = append(list, claimOp(tote, some...))
		}
		for node := range nodes {
			list = append(list, releaseOp(tote, node), seizeOp(tote, node))
		}
		list = append(list, dropOp(tote))
	}
	return list
}

// walkAll goes to each state that tables of these sizes come to, and from each makes each call: from there on all lists
// of calls go as those that were made. Each state is come to by calls from New on.
func walkAll(t *testing.T, totes, nodes int, look func(before, after *byWords, o op, r result)) int {
	type stop struct {
		w    *byWords
		path []op
	}
	ops := opsOf(totes, nodes)
	first := &byWords{n: nodes, held: map[pair]bool{}}
	seen := map[string]bool{first.state(): true}
	stops := []stop{{w: first}}
	for at := 0; at < len(stops); at++ {
		from := stops[at]
		for _, o := range ops {
			d := &double{t, newTable(t, nodes), from.w.copied()}
			for _, earlier := range from.path {
				earlier.onTable(d.c)
			}
			r := d.call(o)
			look(from.w, d.w, o, r)
			if state := d.w.state(); !seen[state] {
				seen[state] = true
				stops = append(stops, stop{d.w, append(slices.Clone(from.path), o)})
			}
		}
	}
	return len(stops)
}

func TestP10_1_EveryListOfCallsOfSmallTables(t *testing.T) {
	// So many states there are: the walk went everywhere.
	for _, c := range []struct{ totes, nodes, states int }{{2, 1, 7}, {4, 1, 197}, {3, 2, 1876}, {2, 3, 1327}} {
		states := walkAll(t, c.totes, c.nodes, func(before, after *byWords, o op, r result) {
			if r.e != api.OK && before.state() != after.state() {
				t.Fatalf("%s: %v: %d, and then %s", before.state(), o, r.e, after.state())
			}
		})
		if states != c.states {
			t.Fatalf("%d totes, %d nodes: %d states", c.totes, c.nodes, states)
		}
	}
}

// chanceOp is a call of rnd's choice; once in a while it is a wrong one.
func chanceOp(rnd *rand.Rand, d *double, totes int) op {
	tote, node := 1+rnd.Intn(totes), rnd.Intn(d.w.n)
	if rnd.Intn(40) == 0 {
		tote = []int{0, -1, 31, 32, math.MinInt, math.MaxInt}[rnd.Intn(6)]
	}
	if rnd.Intn(40) == 0 {
		node = []int{-1, -2, d.w.n, d.w.n + 1, math.MinInt, math.MaxInt}[rnd.Intn(6)]
	}
	switch rnd.Intn(12) {
	case 0, 1, 2, 3:
		var nodes []int
		for range rnd.Intn(5) {
			nodes = append(nodes, rnd.Intn(d.w.n))
		}
		if rnd.Intn(10) > 0 {
			nodes = append(nodes, node)
		}
		return claimOp(tote, nodes...)
	case 4:
		return dropOp(tote)
	case 5:
		// One that waits, if one does.
		if waits := d.w.waiting(); len(waits) > 0 {
			return dropOp(waits[rnd.Intn(len(waits))])
		}
		return dropOp(tote)
	case 6:
		return seizeOp(tote, node)
	case 7:
		return releaseOp(tote, node)
	}
	// What is held, if the node is.
	if holder := d.w.holder(node); holder != 0 {
		return releaseOp(holder, node)
	}
	return claimOp(tote, node)
}

// sizes are those of tables for calls by chance: many totes and few nodes, and others.
func sizes() []struct{ totes, nodes int } {
	return []struct{ totes, nodes int }{{30, 1}, {30, 2}, {30, 3}, {30, 5}, {30, 8}, {8, 3}, {5, 5}, {12, 12}, {30, 40}, {3, 40}}
}

func TestP10_1_LongListsOfCalls(t *testing.T) {
	for i, size := range sizes() {
		for run := range 12 {
			rnd := rand.New(rand.NewSource(int64(100*i + run)))
			d := newDouble(t, size.nodes)
			for range 500 {
				d.call(chanceOp(rnd, d, size.totes))
			}
		}
	}
}

// TestP10_1_ARefusedCallChangesNothing has two tables, and makes the calls that are refused of the one alone.
func TestP10_1_ARefusedCallChangesNothing(t *testing.T) {
	for i, size := range sizes() {
		rnd := rand.New(rand.NewSource(int64(i)))
		d, refused := newDouble(t, size.nodes), 0
		other := newTable(t, size.nodes)
		for range 3000 {
			o := chanceOp(rnd, d, size.totes)
			r := d.call(o)
			if r.e != api.OK {
				refused++
				if r.yes || len(r.granted) != 0 {
					t.Fatalf("%v: %v", o, r)
				}
				continue
			}
			if got := o.onTable(other); !got.same(r) {
				t.Fatalf("%v: %v, and %v without what was refused", o, r, got)
			}
		}
		if refused < 100 {
			t.Fatalf("%v: %d were refused", size, refused)
		}
	}
}

// watch knows of a table what its calls and answers tell, and holds them against P10.2 alone.
type watch struct {
	t     *testing.T
	c     *Table
	n     int
	waits []wish // in the order in which they came
}

func (w *watch) share(a, b wish) bool {
	return slices.ContainsFunc(a.nodes, func(node int) bool { return slices.Contains(b.nodes, node) })
}

func (w *watch) snapshot() []int {
	var totes []int
	for node := range w.n {
		totes = append(totes, w.c.Holder(node))
	}
	return totes
}

// oneHolder holds the answers of Held against one another and against Holder.
func (w *watch) oneHolder() {
	w.t.Helper()
	by := make([]int, w.n)
	for tote := 1; tote <= 30; tote++ {
		for _, node := range w.c.Held(tote) {
			if by[node] != 0 {
				w.t.Fatalf("%d and %d hold the node %d", by[node], tote, node)
			}
			by[node] = tote
		}
	}
	if got := w.snapshot(); !slices.Equal(got, by) {
		w.t.Fatalf("the holders are %v, but by Held they are %v", got, by)
	}
}

// granted takes a claim that was granted from those that wait, and answers it.
func (w *watch) granted(tote int) wish {
	w.t.Helper()
	at := slices.IndexFunc(w.waits, func(c wish) bool { return c.tote == tote })
	if at < 0 {
		w.t.Fatalf("%d was granted what it didn't wait for", tote)
	}
	c := w.waits[at]
	for _, ahead := range w.waits[:at] {
		if w.share(c, ahead) {
			w.t.Fatalf("%v was granted ahead of %v, which came earlier", c, ahead)
		}
	}
	w.waits = slices.Delete(w.waits, at, at+1)
	return c
}

// call makes a call, and looks at what has changed: what was granted, whole, and what the call itself is for.
func (w *watch) call(o op) {
	w.t.Helper()
	want := w.snapshot()
	r := o.onTable(w.c)
	totes := r.granted
	if r.e == api.OK {
		switch o.name {
		case "Claim":
			w.waits = append(w.waits, wish{o.tote, slices.Clone(o.nodes)})
			if r.yes {
				totes = []int{o.tote}
			}
		case "Release":
			want[o.node] = 0
		case "Seize":
			want[o.node] = o.tote
		case "Drop":
			w.waits = slices.DeleteFunc(w.waits, func(c wish) bool { return c.tote == o.tote })
		}
	}
	for _, tote := range totes {
		for _, node := range w.granted(tote).nodes {
			if want[node] != 0 && want[node] != tote {
				w.t.Fatalf("%v: %d was granted the node %d, which %d holds", o, tote, node, want[node])
			}
			want[node] = tote
		}
	}
	if got := w.snapshot(); !slices.Equal(got, want) {
		w.t.Fatalf("%v: %v: the holders are %v, not %v", o, r, got, want)
	}
	w.oneHolder()
}

func TestP10_2_OneHolderAllOrNoneFirstCome(t *testing.T) {
	for i, size := range sizes() {
		for run := range 8 {
			rnd := rand.New(rand.NewSource(int64(1000 + 100*i + run)))
			d := newDouble(t, size.nodes)
			w := &watch{t: t, c: newTable(t, size.nodes), n: size.nodes}
			for range 500 {
				o := chanceOp(rnd, d, size.totes)
				o.onWords(d.w)
				w.call(o)
			}
		}
	}
}

// TestP10_2_LaterOnesDoNotStarveAnEarlierOne has two that always hold one of the nodes that a third one wants.
func TestP10_2_LaterOnesDoNotStarveAnEarlierOne(t *testing.T) {
	d := newDouble(t, 2)
	d.yes(1, 0)
	d.no(3, 0, 1)
	d.no(2, 1) // else 1 and 2 could go on by turns
	d.release(1, 0, 3)
	d.no(1, 0)
	d.release(3, 0, 1)
	d.release(3, 1, 2)
}

// TestP10_2_AllOrNone has a claim of many nodes that get free one by one.
func TestP10_2_AllOrNone(t *testing.T) {
	for n := 2; n <= 29; n++ {
		d := newDouble(t, n)
		for node := range n {
			d.yes(node+1, node)
		}
		d.no(30, upTo(n)...)
		for node := range n - 1 {
			d.release(node+1, node)
			d.held(30)
			d.no(node+1, node) // it can't have it back
		}
		d.release(n, n-1, 30)
		d.held(30, upTo(n)...)
	}
}

// TestP10_2_ReadyClaimsDoNotWait holds each state of small tables against: behind a call none that waits may be granted.
func TestP10_2_ReadyClaimsDoNotWait(t *testing.T) {
	walkAll(t, 3, 2, func(before, after *byWords, o op, r result) {
		if at := after.firstThatMay(); at >= 0 {
			t.Fatalf("%s: %v: %v waits, and may be granted", before.state(), o, after.waits[at])
		}
	})
}

// releaseAll releases, in rnd's order, each node that is held when its turn comes, and answers who was granted.
func releaseAll(d *double, rnd *rand.Rand) []int {
	d.t.Helper()
	var granted []int
	for _, node := range rnd.Perm(d.w.n) {
		if holder := d.c.Holder(node); holder != 0 {
			r := d.call(releaseOp(holder, node))
			granted = append(granted, r.granted...)
		}
	}
	return granted
}

func TestP10_3_EachThatWaitsIsGrantedAtLast(t *testing.T) {
	for i, size := range sizes() {
		for run := range 20 {
			rnd := rand.New(rand.NewSource(int64(2000 + 100*i + run)))
			d := newDouble(t, size.nodes)
			for range 150 {
				d.call(chanceOp(rnd, d, size.totes))
			}
			waits := d.c.Waiting()
			var granted []int
			for rounds := 0; len(d.c.Waiting()) > 0; rounds++ {
				if rounds > len(waits) {
					t.Fatalf("%s: not all are granted by so many rounds as claims waited", d.w.state())
				}
				granted = append(granted, releaseAll(d, rnd)...)
			}
			slices.Sort(waits)
			slices.Sort(granted)
			if !slices.Equal(waits, granted) {
				t.Fatalf("%v waited, %v were granted", waits, granted)
			}
		}
	}
}

// TestP10_3_OthersThatComeDoNotMatter has others claim nodes all the time: the first one that waits is granted when
// all was released, so each is when that was done as often as its place says.
func TestP10_3_OthersThatComeDoNotMatter(t *testing.T) {
	for i, size := range sizes() {
		for run := range 10 {
			rnd := rand.New(rand.NewSource(int64(3000 + 100*i + run)))
			d := newDouble(t, size.nodes)
			claimSome := func(times int) {
				for range times {
					nodes := rnd.Perm(size.nodes)[:1+rnd.Intn(min(size.nodes, 6))]
					d.call(claimOp(1+rnd.Intn(size.totes), nodes...))
				}
			}
			claimSome(60)
			waits := d.c.Waiting()
			left := d.c.Waiting()
			for _, tote := range waits {
				for _, granted := range releaseAll(d, rnd) {
					left = slices.DeleteFunc(left, func(other int) bool { return other == granted })
				}
				if slices.Contains(left, tote) {
					t.Fatalf("%v waited, and %d wasn't granted in time", waits, tote)
				}
				claimSome(10)
			}
		}
	}
}

// roomy is a list with spare room, all of it written, and a function that tells whether all is as it was.
func roomy(list []int) ([]int, func() bool) {
	room := append(slices.Clone(list), 77, 78, 79)
	was := slices.Clone(room)
	return room[:len(list)], func() bool { return slices.Equal(room, was) }
}

// scribble writes over a list, spare room too.
func scribble(list []int) {
	room := list[:cap(list)]
	for i := range room {
		room[i] = 99
	}
}

// overlap tells whether two lists share memory, spare room too.
func overlap(a, b []int) bool {
	if cap(a) == 0 || cap(b) == 0 {
		return false
	}
	x, y := uintptr(unsafe.Pointer(unsafe.SliceData(a))), uintptr(unsafe.Pointer(unsafe.SliceData(b)))
	return x < y+uintptr(cap(b))*unsafe.Sizeof(0) && y < x+uintptr(cap(a))*unsafe.Sizeof(0)
}

func TestP10_4_WhatIsHandedInStays(t *testing.T) {
	for i, size := range sizes() {
		rnd := rand.New(rand.NewSource(int64(4000 + i)))
		d := newDouble(t, size.nodes)
		for range 1500 {
			o := chanceOp(rnd, d, size.totes)
			nodes, stays := roomy(o.nodes)
			was := slices.Clone(nodes)
			d.call(op{o.name, o.tote, o.node, nodes})
			if !stays() {
				t.Fatalf("Claim(%d, %v): what was handed in is changed", o.tote, was)
			}
		}
	}
}

// TestP10_4_NodesAreNotKept writes over the nodes of each claim when it was answered.
func TestP10_4_NodesAreNotKept(t *testing.T) {
	for i, size := range sizes() {
		rnd := rand.New(rand.NewSource(int64(5000 + i)))
		d := newDouble(t, size.nodes)
		room := make([]int, 0, 64) // one list for all claims
		for range 1500 {
			o := chanceOp(rnd, d, size.totes)
			o.nodes = append(room, o.nodes...)
			d.call(o)
			scribble(o.nodes)
			d.same()
		}
	}
}

func TestP10_4_NodesOfOneThatWaitsAreNotKept(t *testing.T) {
	c := newTable(t, 4)
	c.Claim(1, []int{0, 1})
	nodes := append(make([]int, 0, 8), 1, 2)
	if yes, e := c.Claim(2, nodes); yes || e != api.OK {
		t.Fatalf("Claim: %v, %d", yes, e)
	}
	nodes[0], nodes[1] = 3, 3
	if got, e := c.Release(1, 1); !slices.Equal(got, []int{2}) || e != api.OK {
		t.Errorf("Release: %v, %d", got, e)
	}
	if got := c.Held(2); !slices.Equal(got, []int{1, 2}) {
		t.Errorf("Held: %v", got)
	}
}

// TestP10_4_AnswersAreNewMemory writes over each answer, spare room too, and holds the next calls against the words.
func TestP10_4_AnswersAreNewMemory(t *testing.T) {
	for i, size := range sizes() {
		rnd := rand.New(rand.NewSource(int64(6000 + i)))
		d := newDouble(t, size.nodes)
		for range 1000 {
			o := chanceOp(rnd, d, size.totes)
			r := d.call(o)
			lists := [][]int{o.nodes, r.granted, d.c.Waiting(), d.c.Waiting()}
			for tote := 1; tote <= 3; tote++ {
				lists = append(lists, d.c.Held(tote), d.c.Held(tote))
			}
			for at, list := range lists {
				for _, other := range lists[:at] {
					if overlap(list, other) {
						t.Fatalf("%v: %v and %v share memory", o, list, other)
					}
				}
			}
			for _, list := range lists[1:] {
				scribble(list)
			}
			d.same()
		}
	}
}

// TestP10_4_AnswersStayAsTheyWere keeps answers, and looks whether later calls change them.
func TestP10_4_AnswersStayAsTheyWere(t *testing.T) {
	rnd := rand.New(rand.NewSource(7000))
	d := newDouble(t, 6)
	var lists, were [][]int
	for range 600 {
		r := d.call(chanceOp(rnd, d, 20))
		for _, list := range [][]int{r.granted, d.c.Waiting(), d.c.Held(1 + rnd.Intn(20))} {
			lists, were = append(lists, list), append(were, slices.Clone(list))
		}
	}
	for i := range lists {
		if !slices.Equal(lists[i], were[i]) {
			t.Fatalf("%v was answered, and now it is %v", were[i], lists[i])
		}
	}
}

func TestP7_TwoTablesShareNothing(t *testing.T) {
	rnd := rand.New(rand.NewSource(8000))
	a, b := newDouble(t, 5), newDouble(t, 5)
	for range 2000 {
		a.call(chanceOp(rnd, a, 12))
		b.call(chanceOp(rnd, b, 12))
		a.same()
	}
}

// TestP7_AskingChangesNothing has two tables, and asks the one alone between the calls.
func TestP7_AskingChangesNothing(t *testing.T) {
	rnd := rand.New(rand.NewSource(8100))
	d, quiet := newDouble(t, 5), newTable(t, 5)
	for range 2000 {
		o := chanceOp(rnd, d, 12)
		r := d.call(o)
		d.same()
		if got := o.onTable(quiet); !got.same(r) {
			t.Fatalf("%v: %v, and %v where nothing was asked", o, r, got)
		}
	}
}

func TestP6_NoCallPanics(t *testing.T) {
	numbers := append(outside(), 0, 1, 29, 30, 31, 39, 40, 41)
	for _, n := range []int{1, 2, 30, 40} {
		d := newDouble(t, n)
		for _, a := range numbers {
			for _, b := range numbers {
				d.call(claimOp(a, b))
				d.call(claimOp(a, b, a))
				d.call(seizeOp(a, b))
				d.call(releaseOp(a, b))
				d.call(dropOp(a))
			}
			d.c.Holder(a)
			d.c.Held(a)
		}
	}
}
