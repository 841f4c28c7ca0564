package tape

import (
	"fmt"
	"math"
	"math/rand"
	"slices"
	"testing"
	"unsafe"

	"stillage/api"
	"stillage/note"
)

// byWords follows the chapter's words apart from the program: it reckons how far a call gets, and does that at one go.
type byWords struct {
	area, other string
	budget      int // below 0: there is none
	dead        bool
}

func newWords() *byWords { return &byWords{budget: -1} }

// grant tells how many of so many units are done.
func (w *byWords) grant(wanted int) int {
	if w.budget < 0 {
		return wanted
	}
	done := min(wanted, w.budget)
	w.budget -= done
	w.dead = done < wanted
	return done
}

func (w *byWords) ended() api.Errno {
	if w.dead {
		return api.ErrDead
	}
	return api.OK
}

func (w *byWords) goodPart() int {
	_, size := note.Read([]byte(w.area))
	return size
}

func (w *byWords) arm(n int) api.Errno {
	switch {
	case w.dead:
		return api.ErrDead
	case n < 0 || n > 1099511627776:
		return api.ErrRange
	}
	w.budget = n
	return api.OK
}

func (w *byWords) append(l []api.Note) api.Errno {
	b, e := note.Write(l)
	switch {
	case w.dead:
		return api.ErrDead
	case e != api.OK:
		return e
	case w.goodPart() != len(w.area):
		return api.ErrState
	case len(w.area)+len(b) > 65536:
		return api.ErrFull
	}
	w.area += string(b[:w.grant(len(b))])
	return w.ended()
}

func (w *byWords) compact(l []api.Note) api.Errno {
	b, e := note.Write(l)
	switch {
	case w.dead:
		return api.ErrDead
	case e != api.OK:
		return e
	case len(b) > 65536:
		return api.ErrFull
	}
	empties := min(len(w.other), 1)
	done := w.grant(empties + len(b) + 1)
	if done < empties {
		return w.ended()
	}
	if done -= empties; done <= len(b) {
		w.other = string(b[:done])
	} else {
		w.area, w.other = string(b), w.area
	}
	return w.ended()
}

func (w *byWords) repair() (int, api.Errno) {
	good := w.goodPart()
	gone := len(w.area) - good
	if w.dead || w.grant(min(gone, 1)) < min(gone, 1) {
		return 0, api.ErrDead
	}
	w.area = w.area[:good]
	return gone, api.OK
}

func (w *byWords) crash() *byWords {
	return &byWords{area: w.area, other: w.other, budget: -1}
}

// op is a call; Crash goes on with the crash in the tape's place.
type op struct {
	name string
	n    int
	l    []api.Note
}

func armOp(n int) op                { return op{"Arm", n, nil} }
func appendOp(l ...api.Note) op     { return op{"Append", 0, l} }
func compactOp(l ...api.Note) op    { return op{"Compact", 0, l} }
func repairOp() op                  { return op{"Repair", 0, nil} }
func crashOp() op                   { return op{"Crash", 0, nil} }
func (o op) onTape(t **Tape) result { return o.do(tapeCalls(t)) }

func (o op) String() string {
	if len(o.l) > 8 {
		return fmt.Sprintf("%s(%d notes)", o.name, len(o.l))
	}
	return fmt.Sprintf("%s(%d %v)", o.name, o.n, o.l)
}

type result struct {
	n int
	e api.Errno
}

// calls are those of a tape, or of its double.
type calls struct {
	arm             func(int) api.Errno
	append, compact func([]api.Note) api.Errno
	repair          func() (int, api.Errno)
	crash           func()
}

func tapeCalls(t **Tape) calls {
	return calls{(*t).Arm, (*t).Append, (*t).Compact, (*t).Repair, func() { *t = (*t).Crash() }}
}

func wordsCalls(w **byWords) calls {
	return calls{(*w).arm, (*w).append, (*w).compact, (*w).repair, func() { *w = (*w).crash() }}
}

func (o op) do(c calls) (r result) {
	switch o.name {
	case "Arm":
		r.e = c.arm(o.n)
	case "Append":
		r.e = c.append(o.l)
	case "Compact":
		r.e = c.compact(o.l)
	case "Repair":
		r.n, r.e = c.repair()
	case "Crash":
		c.crash()
	}
	return r
}

// look is all of a tape that can be seen without a change: of the area that doesn't count, whether it is empty.
type look struct {
	size, behind int
	notes        []api.Note
	otherEmpty   bool
	dead         bool
}

func lookAt(t *Tape) look {
	behind, _ := t.Crash().Repair()
	probe := t.Crash()
	probe.Arm(1)
	return look{t.Size(), behind, t.Read(), probe.Compact(nil) == api.OK, t.Append(nil) == api.ErrDead}
}

func (w *byWords) look() look {
	l, size := note.Read([]byte(w.area))
	return look{len(w.area), len(w.area) - size, l, w.other == "", w.dead}
}

func (l look) same(m look) bool {
	return l.size == m.size && l.behind == m.behind && slices.Equal(l.notes, m.notes) && l.otherEmpty == m.otherEmpty && l.dead == m.dead
}

func (l look) String() string {
	if len(l.notes) > 8 {
		return fmt.Sprintf("{%d bytes, %d behind, %d notes, other empty %v, dead %v}", l.size, l.behind, len(l.notes), l.otherEmpty, l.dead)
	}
	return fmt.Sprintf("{%d bytes, %d behind, %v, other empty %v, dead %v}", l.size, l.behind, l.notes, l.otherEmpty, l.dead)
}

// double is a tape and its double by words, which are held against each other behind each call.
type double struct {
	t    testing.TB
	tape *Tape
	w    *byWords
	said []op
}

func newDouble(t testing.TB) *double {
	return &double{t: t, tape: New(), w: newWords()}
}

// behind is a double behind these calls.
func behind(t testing.TB, ops ...op) *double {
	t.Helper()
	d := newDouble(t)
	d.does(ops...)
	return d
}

func (d *double) same() {
	d.t.Helper()
	if got, want := lookAt(d.tape), d.w.look(); !got.same(want) {
		d.t.Fatalf("behind %v: %v, want %v", d.said, got, want)
	}
}

func (d *double) call(o op) result {
	d.t.Helper()
	d.said = append(d.said, o)
	got, want := o.onTape(&d.tape), o.do(wordsCalls(&d.w))
	if got != want {
		d.t.Fatalf("%v: %v, want %v", d.said, got, want)
	}
	d.same()
	return got
}

func (d *double) does(ops ...op) {
	d.t.Helper()
	for _, o := range ops {
		d.call(o)
	}
}

// answers holds a call to an answer that is written down in the test, not only to the double's.
func (d *double) answers(o op, n int, e api.Errno) {
	d.t.Helper()
	if r := d.call(o); r != (result{n, e}) {
		d.t.Fatalf("%v: %v, want %d, %d", d.said, r, n, e)
	}
}

func (d *double) taken(ops ...op) {
	d.t.Helper()
	for _, o := range ops {
		d.answers(o, 0, api.OK)
	}
}

// refused holds that calls are answered by e, and change nothing.
func (d *double) refused(e api.Errno, ops ...op) {
	d.t.Helper()
	for _, o := range ops {
		before := lookAt(d.tape)
		d.answers(o, 0, e)
		if now := lookAt(d.tape); !now.same(before) {
			d.t.Fatalf("%v: %v, was %v", d.said, now, before)
		}
	}
}

func (d *double) has(size int, l ...api.Note) {
	d.t.Helper()
	if got := d.tape.Read(); d.tape.Size() != size || !slices.Equal(got, l) {
		d.t.Fatalf("behind %v: %d bytes, %d notes, want %d, %d", d.said, d.tape.Size(), len(got), size, len(l))
	}
}

// left holds the tape to a budget of so many units, by spending it.
func (d *double) left(units int) {
	d.t.Helper()
	d.does(repairOp())
	start := d.tape.Size()
	l := bytesOf(units + 5)
	d.answers(appendOp(l...), 0, api.ErrDead)
	if d.tape.Size() != start+units {
		d.t.Fatalf("behind %v: %d units were left, want %d", d.said, d.tape.Size()-start, units)
	}
}

// unbound holds that there is no budget.
func (d *double) unbound() {
	d.t.Helper()
	d.does(repairOp())
	for range 3 {
		d.taken(compactOp(bytesOf(65536)...), compactOp())
	}
}

// Notes of 5, 6, 7, 8 and 9 bytes.
var (
	five  = api.Note{Kind: api.JCancel, A: 1}
	six   = api.Note{Kind: api.JPut, A: 5, B: 1}
	seven = api.Note{Kind: api.JOrder, A: 7, B: 2, C: 5}
	eight = api.Note{Kind: api.JServed, A: 1 << 21}
	nine  = api.Note{Kind: api.JDropped, A: 1<<31 - 1}
)

func someNotes() []api.Note {
	return []api.Note{
		five, six, seven, eight, nine,
		{Kind: api.JSend, A: 1, B: 5, C: 65535}, {Kind: api.JMoved, A: 1, B: 5}, {Kind: api.JMask, A: 200, B: 1},
		{Kind: api.JOrder, A: 1<<31 - 1, B: 1<<31 - 1, C: 1<<31 - 1},
	}
}

// bytesOf are notes of so many bytes in all, 5 at least: of 5 each, but for the last one.
func bytesOf(size int) []api.Note {
	many := size / 5
	l := make([]api.Note, many)
	for i := range l {
		l[i] = api.Note{Kind: api.JCancel, A: i % 128}
	}
	l[many-1].A = []int{127, 16383, 2097151, 268435455, 1<<31 - 1}[size%5]
	return l
}

func sizeOf(l []api.Note) int {
	b, _ := note.Write(l)
	return len(b)
}

func chanceNotes(rnd *rand.Rand, many int) []api.Note {
	l := make([]api.Note, many)
	for i := range l {
		l[i] = []api.Note{
			{Kind: api.JCancel, A: rnd.Intn(1 << (1 + rnd.Intn(31)))},
			{Kind: api.JPut, A: rnd.Intn(31), B: rnd.Intn(40)},
			{Kind: api.JSend, A: rnd.Intn(300), B: rnd.Intn(31), C: rnd.Intn(65536)},
			{Kind: api.JMask, A: rnd.Intn(200), B: rnd.Intn(2)},
		}[rnd.Intn(4)]
	}
	return l
}

// noNotes are of each sort that a note can't be.
func noNotes() []api.Note {
	return []api.Note{
		{}, {Kind: 9}, {Kind: -1, A: 1}, {Kind: 259, A: 1}, {Kind: api.JCancel, A: -1}, {Kind: api.JCancel, A: 1 << 31},
		{Kind: api.JCancel, A: 1, B: 1}, {Kind: api.JPut, A: 1, B: 1, C: 1}, {Kind: api.JMask, A: 1, B: 2}, {Kind: math.MaxInt, A: math.MinInt},
	}
}

// wrongLists have one that is no note, wherever it may stand.
func wrongLists() [][]api.Note {
	var lists [][]api.Note
	for _, wrong := range noNotes() {
		for size := range 4 {
			for at := range size + 1 {
				lists = append(lists, slices.Insert([]api.Note{six, five, nine}[:size:size], at, wrong))
			}
		}
	}
	return lists
}

func outOfRange() []int {
	return []int{-1, -2, -1 << 40, -1<<40 - 1, math.MinInt, math.MinInt + 1, 1<<40 + 1, 1<<40 + 2, 1 << 41, 1 << 62, math.MaxInt}
}

// torn is a double with one whole note, and so many bytes behind it.
func torn(t testing.TB, bytes int) *double {
	t.Helper()
	return behind(t, appendOp(six), armOp(bytes), appendOp(nine), crashOp())
}

func TestP19_1_Example(t *testing.T) {
	d := newDouble(t)
	d.taken(armOp(4))
	d.answers(appendOp(five), 0, api.ErrDead)
	d.taken(crashOp())
	d.has(4)
	d.answers(repairOp(), 4, api.OK)
	d.has(0)
	d.taken(appendOp(five))
	d.has(5, five)
}

func TestP19_1_NewIsEmpty(t *testing.T) {
	d := newDouble(t)
	d.same()
	d.has(0)
	d.answers(repairOp(), 0, api.OK)
	d.unbound()
	both := New()
	both.Arm(1)
	if e := both.Compact(nil); e != api.OK {
		t.Errorf("the other area of a new tape isn't empty: %d", e)
	}
}

func TestP19_1_OneBehindTheOther(t *testing.T) {
	d := newDouble(t)
	d.taken(appendOp(five), appendOp(six, seven))
	d.has(18, five, six, seven)
	d.taken(compactOp(nine, seven))
	d.has(16, nine, seven)
	d.taken(appendOp(nine))
	d.has(25, nine, seven, nine)
	d.taken(armOp(10))
	d.answers(appendOp(six, six), 0, api.ErrDead)
	d.has(35, nine, seven, nine, six)
	d.refused(api.ErrDead, repairOp(), armOp(3), appendOp(), compactOp())
	d.taken(crashOp())
	d.has(35, nine, seven, nine, six)
	d.refused(api.ErrState, appendOp(eight), appendOp())
	d.answers(repairOp(), 4, api.OK)
	d.taken(appendOp(eight))
	d.has(39, nine, seven, nine, six, eight)
}

func TestP19_1_ArmInItsRange(t *testing.T) {
	for _, n := range []int{0, 1, 2, 5, 1 << 16, 1<<40 - 1, 1 << 40} {
		d := newDouble(t)
		d.taken(armOp(n))
		if n < 65531 {
			d.left(n)
			continue
		}
		d.taken(compactOp(bytesOf(65535)...)) // 65536 units, with the turn
		if n == 1<<16 {
			d.answers(compactOp(), 0, api.ErrDead)
		} else {
			d.taken(compactOp(bytesOf(65536)...), compactOp(bytesOf(65536)...))
		}
	}
}

func TestP19_1_ArmOutsideItsRange(t *testing.T) {
	for _, n := range outOfRange() {
		d := behind(t, appendOp(six))
		d.refused(api.ErrRange, armOp(n))
		d.unbound()
		for _, budget := range []int{0, 1, 7, 1000} {
			d = behind(t, appendOp(six), armOp(budget))
			d.refused(api.ErrRange, armOp(n), armOp(n))
			d.left(budget)
		}
	}
}

func TestP19_1_ArmedAgain(t *testing.T) {
	for _, first := range []int{0, 1, 6, 30, 1 << 40} {
		for _, then := range []int{0, 1, 6, 30} {
			d := newDouble(t)
			d.taken(armOp(first), armOp(then))
			d.left(then)
			d = behind(t, armOp(max(first, 6)), appendOp(six))
			d.taken(armOp(then))
			d.left(then)
		}
	}
}

// TestP19_1_NothingLeftIsNotDead: the power goes where a unit is wanted, not where the last one is done.
func TestP19_1_NothingLeftIsNotDead(t *testing.T) {
	d := behind(t, appendOp(six), armOp(0))
	d.taken(appendOp(), appendOp([]api.Note{}...), repairOp())
	d.has(6, six)
	d.taken(armOp(6), appendOp(six))
	d.has(12, six, six)
	d.taken(appendOp(), repairOp(), armOp(0), armOp(1), armOp(0))
	d.answers(appendOp(six), 0, api.ErrDead)
	d.has(12, six, six)
	d.refused(api.ErrDead, armOp(1), appendOp(), appendOp(six), compactOp(), repairOp())
}

func TestP19_1_BudgetOfAnAppend(t *testing.T) {
	for _, ahead := range [][]api.Note{nil, {five}, someNotes()} {
		for _, l := range [][]api.Note{nil, {five}, {nine}, {five, six, seven}, someNotes(), bytesOf(44)} {
			size := sizeOf(l)
			for budget := range size + 3 {
				d := behind(t, appendOp(ahead...), armOp(budget))
				if budget < size {
					d.answers(appendOp(l...), 0, api.ErrDead)
					if d.tape.Size() != sizeOf(ahead)+budget {
						t.Fatalf("%d units make %d bytes of %d", budget, d.tape.Size(), sizeOf(ahead))
					}
					d.refused(api.ErrDead, appendOp(), armOp(1))
					continue
				}
				d.taken(appendOp(l...))
				d.has(sizeOf(ahead)+size, slices.Concat(ahead, l)...)
				d.left(budget - size)
			}
		}
	}
}

// TestP19_1_BudgetOfACompact has the other area empty, with something in it, and with what an earlier power cut left there.
func TestP19_1_BudgetOfACompact(t *testing.T) {
	for _, start := range []struct {
		empties int
		ahead   []op
	}{
		{0, nil},
		{0, []op{appendOp(six, nine)}},
		{0, []op{appendOp(six), armOp(0), compactOp(five), crashOp()}},
		{1, []op{appendOp(six), compactOp(seven)}},
		{1, []op{appendOp(six), compactOp()}},
		{1, []op{appendOp(six), compactOp(seven), compactOp(eight, eight), appendOp(five)}},
		{0, []op{compactOp(seven)}},
		{1, []op{appendOp(six), armOp(1), compactOp(five), crashOp()}},
		{1, []op{appendOp(six), armOp(5), compactOp(five), crashOp()}},
		{0, []op{appendOp(six), compactOp(seven), armOp(1), compactOp(five), crashOp()}},
		{1, []op{appendOp(six), armOp(3), appendOp(nine), crashOp(), compactOp(seven)}},
		{0, []op{appendOp(six), armOp(3), appendOp(nine), crashOp()}},
	} {
		for _, l := range [][]api.Note{nil, {five}, {five, six, seven}, someNotes()} {
			size := sizeOf(l)
			units := start.empties + size + 1
			for budget := range units + 3 {
				d := behind(t, start.ahead...)
				old, oldSize := d.tape.Read(), d.tape.Size()
				d.does(armOp(budget))
				if budget < units {
					d.answers(compactOp(l...), 0, api.ErrDead)
					d.has(oldSize, old...)
					d.refused(api.ErrDead, compactOp(), armOp(1), appendOp())
					d.taken(crashOp())
					d.has(oldSize, old...)
					continue
				}
				d.taken(compactOp(l...))
				d.has(size, l...)
				d.left(budget - units)
			}
		}
	}
}

func TestP19_1_CompactToNone(t *testing.T) {
	d := newDouble(t)
	d.taken(armOp(1), compactOp())
	d.has(0)
	d.answers(compactOp(), 0, api.ErrDead)
	d = behind(t, appendOp(six), armOp(3))
	d.taken(compactOp()) // the turn alone
	d.has(0)
	d.taken(compactOp()) // the area with six is emptied, and turned to
	d.has(0)
	d.answers(compactOp(), 0, api.ErrDead)
	d = behind(t, appendOp(six), compactOp(five), armOp(1))
	d.answers(compactOp(), 0, api.ErrDead)
	d.has(5, five)
}

func TestP19_1_BudgetOfARepair(t *testing.T) {
	for bytes := 1; bytes < 9; bytes++ {
		d := torn(t, bytes)
		d.does(armOp(0))
		d.answers(repairOp(), 0, api.ErrDead)
		d.has(6+bytes, six)
		d.refused(api.ErrDead, repairOp(), armOp(9), appendOp(), compactOp())
		d.taken(crashOp(), armOp(1))
		d.answers(repairOp(), bytes, api.OK)
		d.has(6, six)
		d.answers(repairOp(), 0, api.OK)
		d.left(0)
		d = torn(t, bytes)
		d.does(armOp(20))
		d.answers(repairOp(), bytes, api.OK)
		d.left(19)
	}
}

// TestP19_1_OneBudgetForAll has calls of every sort that spend one budget, which ends at each place.
func TestP19_1_OneBudgetForAll(t *testing.T) {
	way := []op{appendOp(five), appendOp(), compactOp(six), repairOp(), appendOp(seven, five), compactOp(), compactOp(nine), appendOp(six)}
	units := 5 + 0 + (6 + 1) + 0 + 12 + (1 + 1) + (1 + 9 + 1) + 6
	for budget := range units + 4 {
		d := behind(t, armOp(budget))
		d.does(way...)
		if dead := d.tape.Append(nil) == api.ErrDead; dead != (budget < units) {
			t.Fatalf("budget %d of %d: dead is %v", budget, units, dead)
		}
		if budget >= units {
			d.left(budget - units)
		}
	}
}

func TestP19_1_AppendOfNone(t *testing.T) {
	d := newDouble(t)
	d.taken(appendOp())
	d.has(0)
	d.taken(appendOp(five), appendOp())
	d.has(5, five)
	d.taken(compactOp(bytesOf(65536)...), appendOp())
	d.has(65536, bytesOf(65536)...)
	torn(t, 1).refused(api.ErrState, appendOp())
}

func TestP19_1_FullByAppend(t *testing.T) {
	for _, ahead := range []int{5, 6, 7, 100, 32768, 65526, 65527, 65531} {
		for _, crash := range []bool{false, true} {
			d := behind(t, appendOp(bytesOf(ahead)...))
			if crash {
				d.does(crashOp())
			}
			d.refused(api.ErrFull, appendOp(bytesOf(65537-ahead)...))
			d.taken(appendOp(bytesOf(65536 - ahead)...))
			d.has(65536, slices.Concat(bytesOf(ahead), bytesOf(65536-ahead))...)
			d.refused(api.ErrFull, appendOp(five), appendOp(nine), appendOp(bytesOf(65536)...))
			d.taken(appendOp())
		}
	}
	d := newDouble(t)
	d.refused(api.ErrFull, appendOp(bytesOf(65537)...), appendOp(bytesOf(65541)...), appendOp(bytesOf(131072)...), appendOp(bytesOf(1000000)...))
	d.taken(appendOp(bytesOf(65536)...))
	d.has(65536, bytesOf(65536)...)
	d = behind(t, appendOp(bytesOf(65532)...))
	d.refused(api.ErrFull, appendOp(five))
	d.taken(appendOp())
	d.has(65532, bytesOf(65532)...)
}

func TestP19_1_FullByCompact(t *testing.T) {
	for _, ahead := range [][]op{nil, {appendOp(six)}, {appendOp(six), compactOp(five)}, {appendOp(bytesOf(65536)...)}, {appendOp(bytesOf(65536)...), compactOp(bytesOf(65536)...)}} {
		d := behind(t, ahead...)
		d.refused(api.ErrFull, compactOp(bytesOf(65537)...), compactOp(bytesOf(65541)...), compactOp(bytesOf(131072)...), compactOp(bytesOf(1000000)...))
		d.taken(compactOp(bytesOf(65536)...))
		d.has(65536, bytesOf(65536)...)
		d.refused(api.ErrFull, appendOp(five), compactOp(bytesOf(65537)...))
	}
}

func TestP19_1_RoomAgainBehindACompact(t *testing.T) {
	d := behind(t, appendOp(bytesOf(65536)...))
	d.refused(api.ErrFull, appendOp(five))
	d.taken(compactOp(six), appendOp(five))
	d.has(11, six, five)
	d.taken(appendOp(bytesOf(65525)...))
	d.has(65536, slices.Concat([]api.Note{six, five}, bytesOf(65525))...)
	d.taken(compactOp(bytesOf(65531)...), appendOp(five))
	d.refused(api.ErrFull, appendOp(five))
	d.taken(compactOp())
	d.refused(api.ErrFull, appendOp(bytesOf(65537)...))
	d.taken(appendOp(bytesOf(65536)...))
}

// TestP19_1_FullWithABudget: what is too much wants no unit; the last byte that there is room for does.
func TestP19_1_FullWithABudget(t *testing.T) {
	d := behind(t, appendOp(bytesOf(65530)...), armOp(0))
	d.refused(api.ErrFull, appendOp(seven), compactOp(bytesOf(65537)...))
	d.does(armOp(6))
	d.taken(appendOp(six))
	d.refused(api.ErrFull, appendOp(five))
	d = behind(t, appendOp(bytesOf(65530)...), armOp(5))
	d.answers(appendOp(six), 0, api.ErrDead)
	d.has(65535, bytesOf(65530)...)
	for _, budget := range []int{0, 1, 65535, 65536} {
		d = behind(t, appendOp(five), armOp(budget))
		d.answers(compactOp(bytesOf(65536)...), 0, api.ErrDead)
		d.has(5, five)
	}
	d = behind(t, appendOp(five), armOp(65537))
	d.taken(compactOp(bytesOf(65536)...))
	d.has(65536, bytesOf(65536)...)
	d.answers(compactOp(), 0, api.ErrDead)
}

func TestP19_1_BytesBehindTillRepair(t *testing.T) {
	for bytes := 1; bytes < 9; bytes++ {
		d := torn(t, bytes)
		for range 2 {
			d.refused(api.ErrState, appendOp(), appendOp(five), appendOp(someNotes()...))
		}
		d.taken(crashOp(), armOp(100))
		d.refused(api.ErrState, appendOp(), appendOp(five))
		d.answers(repairOp(), bytes, api.OK)
		d.taken(appendOp(), appendOp(five))
		d.has(11, six, five)
		d.left(94)
	}
}

// TestP19_1_NoBytesBehind: the power went just behind a note.
func TestP19_1_NoBytesBehind(t *testing.T) {
	for _, budget := range []int{0, 5, 11} {
		d := behind(t, appendOp(six), armOp(budget))
		d.answers(appendOp(five, six, seven), 0, api.ErrDead)
		d.taken(crashOp(), appendOp(), repairOp(), appendOp(nine))
		d.has(6+budget+9, slices.Concat([]api.Note{six}, []api.Note{five, six}[:budget/5], []api.Note{nine})...)
	}
}

func TestP19_1_CompactWithBytesBehind(t *testing.T) {
	for bytes := 1; bytes < 9; bytes++ {
		d := torn(t, bytes)
		d.taken(compactOp(seven))
		d.has(7, seven)
		d.taken(appendOp(five), repairOp())
		d.has(12, seven, five)
		d = torn(t, bytes)
		d.taken(armOp(4))
		d.answers(compactOp(seven), 0, api.ErrDead)
		d.taken(crashOp())
		d.refused(api.ErrState, appendOp())
		d.answers(repairOp(), bytes, api.OK)
		d.has(6, six)
	}
}

func TestP19_1_ListsWithOneThatIsNone(t *testing.T) {
	for _, ahead := range [][]op{nil, {appendOp(six)}, {appendOp(six), compactOp(five)}, {armOp(3), appendOp(six), crashOp()}} {
		for _, l := range wrongLists() {
			d := behind(t, ahead...)
			d.refused(api.ErrNote, appendOp(l...), compactOp(l...))
			d.does(armOp(7))
			d.refused(api.ErrNote, appendOp(l...), compactOp(l...))
			d.does(repairOp(), armOp(7))
			d.left(7)
		}
	}
}

// deadOnes are dead by a call of each sort.
func deadOnes(t testing.TB) []*double {
	return []*double{
		behind(t, armOp(0), appendOp(six)),
		behind(t, appendOp(six), armOp(3), appendOp(six)),
		behind(t, appendOp(six), armOp(6), appendOp(six, seven)),
		behind(t, appendOp(six), armOp(0), compactOp()),
		behind(t, appendOp(six), armOp(3), compactOp(five)),
		behind(t, appendOp(six), compactOp(five), armOp(1), compactOp(seven)),
		behind(t, armOp(3), appendOp(six), crashOp(), armOp(0), repairOp()),
		behind(t, appendOp(bytesOf(65530)...), armOp(2), appendOp(six)),
	}
}

func TestP19_1_ADeadTapeDoesNothing(t *testing.T) {
	for _, d := range deadOnes(t) {
		for range 2 {
			d.refused(api.ErrDead, armOp(0), armOp(1), armOp(1<<40), appendOp(), appendOp(five), compactOp(), compactOp(five), repairOp())
		}
		old, size := d.tape.Read(), d.tape.Size()
		d.taken(crashOp())
		d.has(size, old...)
		d.does(repairOp())
		d.taken(compactOp(five), appendOp(six), armOp(6), appendOp(six))
		d.has(17, five, six, six)
	}
}

func TestP19_1_WhichErrorIsFirst(t *testing.T) {
	long := bytesOf(70000)
	wrong := append(bytesOf(70000), api.Note{})
	for _, d := range deadOnes(t) {
		for _, n := range outOfRange() {
			d.refused(api.ErrDead, armOp(n))
		}
		for _, l := range append(wrongLists()[:20], long, wrong) {
			d.refused(api.ErrDead, appendOp(l...), compactOp(l...))
		}
	}
	d := torn(t, 3)
	d.refused(api.ErrNote, appendOp(api.Note{}), appendOp(wrong...), compactOp(wrong...))
	d.refused(api.ErrState, appendOp(long...))
	d.refused(api.ErrFull, compactOp(long...))
	d.does(armOp(0))
	d.refused(api.ErrNote, appendOp(api.Note{}), appendOp(wrong...), compactOp(wrong...))
	d.refused(api.ErrState, appendOp(), appendOp(five), appendOp(long...))
	d.refused(api.ErrFull, compactOp(long...))
	d = behind(t, appendOp(six), armOp(0))
	d.refused(api.ErrNote, appendOp(wrong...), compactOp(wrong...))
	d.refused(api.ErrFull, appendOp(long...), compactOp(long...))
	d.refused(api.ErrRange, armOp(-1), armOp(1<<40+1))
	d.answers(appendOp(five), 0, api.ErrDead)
}

func TestP19_1_CrashIsWithoutABudget(t *testing.T) {
	for _, d := range append(deadOnes(t), behind(t, armOp(0)), behind(t, appendOp(six), armOp(3)), behind(t, appendOp(six))) {
		d.taken(crashOp())
		d.unbound()
	}
}

// TestP19_1_CrashKeepsBothAreas: which one counts, and what is in the other.
func TestP19_1_CrashKeepsBothAreas(t *testing.T) {
	for turns := range 4 {
		d := behind(t, appendOp(five))
		for range turns {
			d.does(compactOp(six), appendOp(seven))
		}
		for range 3 {
			d.does(crashOp())
		}
		units := 7
		if turns > 0 {
			units = 8
		}
		d.does(armOp(units - 1))
		d.answers(compactOp(six), 0, api.ErrDead)
		d.does(crashOp(), armOp(8))
		d.answers(compactOp(six), 0, api.OK) // what was begun is in the other area, and is emptied first
		d.left(0)
	}
}

// everyList goes through all lists of these calls.
func everyList(t *testing.T, ops, ahead []op, length int) {
	d := behind(t, ahead...)
	d.does(appendOp(five), appendOp(five, six))
	if length == 0 {
		return
	}
	for _, o := range ops {
		everyList(t, ops, append(slices.Clip(ahead), o), length-1)
	}
}

func TestP19_1_EveryShortListOfCalls(t *testing.T) {
	ops := []op{armOp(0), armOp(1), armOp(7), appendOp(), appendOp(five), appendOp(six, api.Note{}), compactOp(), compactOp(six), repairOp(), crashOp(), armOp(-1)}
	everyList(t, ops, nil, 4)
}

func TestP19_1_EveryShortListOfCallsWithAll(t *testing.T) {
	ops := []op{armOp(3), armOp(8), appendOp(five), compactOp(six), repairOp(), crashOp()}
	everyList(t, ops, nil, 6)
}

func chanceOp(rnd *rand.Rand) op {
	switch at := rnd.Intn(100); {
	case at < 12:
		return armOp(rnd.Intn(60))
	case at < 13:
		return armOp(outOfRange()[rnd.Intn(len(outOfRange()))])
	case at < 60:
		return appendOp(chanceNotes(rnd, rnd.Intn(5))...)
	case at < 62:
		return appendOp(slices.Insert(chanceNotes(rnd, 3), rnd.Intn(4), noNotes()[rnd.Intn(len(noNotes()))])...)
	case at < 72:
		return compactOp(chanceNotes(rnd, rnd.Intn(5))...)
	case at < 82:
		return repairOp()
	default:
		return crashOp()
	}
}

func TestP19_1_LongListsOfCalls(t *testing.T) {
	for seed := range 60 {
		rnd := rand.New(rand.NewSource(int64(seed)))
		d := newDouble(t)
		for range 300 {
			d.call(chanceOp(rnd))
		}
	}
}

// TestP19_1_LongListsNearlyFull has areas at their edge all the time.
func TestP19_1_LongListsNearlyFull(t *testing.T) {
	seen := map[api.Errno]int{}
	for seed := range 8 {
		rnd := rand.New(rand.NewSource(int64(seed)))
		d := newDouble(t)
		for range 40 {
			switch rnd.Intn(8) {
			case 0, 1:
				seen[d.call(compactOp(bytesOf(65500+rnd.Intn(50))...)).e]++
			case 2, 3, 4:
				seen[d.call(appendOp(bytesOf(5+rnd.Intn(20))...)).e]++
			case 5:
				d.call(armOp(rnd.Intn(2) * (65500 + rnd.Intn(60))))
			case 6:
				d.call(repairOp())
			case 7:
				d.call(crashOp())
			}
		}
	}
	for _, e := range []api.Errno{api.OK, api.ErrFull, api.ErrDead} {
		if seen[e] == 0 {
			t.Errorf("no call was answered by %d", e)
		}
	}
}

// wholeOnes are the first notes of a list that fit into so many bytes.
func wholeOnes(l []api.Note, bytes int) []api.Note {
	for i, n := range l {
		if bytes -= sizeOf([]api.Note{n}); bytes < 0 {
			return l[:i]
		}
	}
	return l
}

func wantNotes(t *testing.T, tape *Tape, want []api.Note, when string, at int) {
	t.Helper()
	if got := tape.Read(); !slices.Equal(got, want) {
		t.Fatalf("%s %d: %v, want %v", when, at, got, want)
	}
}

func appendAll(t *testing.T, tape *Tape, lists ...[]api.Note) {
	t.Helper()
	for _, l := range lists {
		if e := tape.Append(l); e != api.OK {
			t.Fatalf("Append(%v): %d", l, e)
		}
	}
}

// TestP19_2_TornAtAnyByteOfAnAppend goes on behind the crash, too.
func TestP19_2_TornAtAnyByteOfAnAppend(t *testing.T) {
	rnd := rand.New(rand.NewSource(1))
	for _, ahead := range [][]api.Note{nil, {nine}, someNotes(), chanceNotes(rnd, 50)} {
		for _, l := range [][]api.Note{{five}, {nine}, someNotes(), chanceNotes(rnd, 30), slices.Repeat([]api.Note{six}, 20)} {
			for cut := range sizeOf(l) {
				p := New()
				appendAll(t, p, ahead)
				p.Arm(cut)
				if e := p.Append(l); e != api.ErrDead {
					t.Fatalf("cut at %d: %d", cut, e)
				}
				want := slices.Concat(ahead, wholeOnes(l, cut))
				wantNotes(t, p, want, "dead, cut at", cut)
				c := p.Crash()
				wantNotes(t, c, want, "cut at", cut)
				gone, e := c.Repair()
				if e != api.OK || gone != sizeOf(ahead)+cut-sizeOf(want) {
					t.Fatalf("cut at %d: Repair: %d, %d", cut, gone, e)
				}
				wantNotes(t, c, want, "repaired, cut at", cut)
				appendAll(t, c, l)
				wantNotes(t, c, slices.Concat(want, l), "went on, cut at", cut)
			}
		}
	}
}

// TestP19_2_NotesThatLookLikeNotes tears notes whose numbers' bytes are a note's.
func TestP19_2_NotesThatLookLikeNotes(t *testing.T) {
	inner, _ := note.Encode(five)
	var number int
	for i, b := range inner {
		number |= int(b&127) << (7 * i)
	}
	l := []api.Note{{Kind: api.JSend, A: number & (1<<31 - 1), B: 2, C: 3}, {Kind: api.JOrder, A: 2, B: 3, C: number & (1<<31 - 1)}, {Kind: api.JSend, A: 2, B: 3, C: 1}}
	for cut := range sizeOf(l) + 1 {
		p := New()
		p.Arm(cut)
		p.Append(l)
		wantNotes(t, p.Crash(), wholeOnes(l, cut), "cut at", cut)
	}
}

func TestP19_2_CompactedAtAnyUnit(t *testing.T) {
	rnd := rand.New(rand.NewSource(2))
	for _, old := range [][]api.Note{nil, {nine}, someNotes(), chanceNotes(rnd, 30)} {
		for _, l := range [][]api.Note{nil, {five}, someNotes(), chanceNotes(rnd, 30)} {
			for _, other := range [][]api.Note{nil, {eight}, someNotes()} {
				units := sizeOf(l) + 1 + min(1, len(other))
				for budget := range units + 2 {
					p := New()
					appendAll(t, p, other)
					if e := p.Compact(old); e != api.OK {
						t.Fatalf("Compact: %d", e)
					}
					p.Arm(budget)
					e, want := p.Compact(l), old
					if e == api.OK {
						want = l
					}
					if (e == api.OK) != (budget >= units) || e != api.OK && e != api.ErrDead {
						t.Fatalf("%d of %d units: %d", budget, units, e)
					}
					wantNotes(t, p, want, "units", budget)
					c := p.Crash()
					wantNotes(t, c, want, "crash, units", budget)
					if n, e := c.Repair(); n != 0 || e != api.OK {
						t.Fatalf("crash, units %d: Repair: %d, %d", budget, n, e)
					}
					appendAll(t, c, []api.Note{six})
					wantNotes(t, c, append(slices.Clone(want), six), "went on, units", budget)
				}
			}
		}
	}
}

// TestP19_2_CompactedAgainAfterACrash: what the first one left in the other area doesn't come back.
func TestP19_2_CompactedAgainAfterACrash(t *testing.T) {
	first, second := someNotes(), []api.Note{nine, five}
	for budget := range sizeOf(first) + 1 {
		p := New()
		appendAll(t, p, []api.Note{seven})
		p.Arm(budget)
		if e := p.Compact(first); e != api.ErrDead {
			t.Fatalf("%d units: %d", budget, e)
		}
		for again := range 20 {
			c := p.Crash()
			c.Arm(again)
			e, want := c.Compact(second), []api.Note{seven}
			if e == api.OK {
				want = second
			}
			wantNotes(t, c.Crash(), want, "again, units", again)
			if e == api.OK && c.Size() != 14 {
				t.Fatalf("%d and %d units: %d bytes", budget, again, c.Size())
			}
		}
	}
}

// TestP19_2_CrashUponCrash has the power go again and again, and keeps books of what must be there.
func TestP19_2_CrashUponCrash(t *testing.T) {
	deaths, appends, compacts := 0, 0, 0
	for seed := range 300 {
		rnd := rand.New(rand.NewSource(int64(seed)))
		p := New()
		var sure []api.Note
		for step := range 60 {
			if rnd.Intn(3) == 0 {
				p.Arm(rnd.Intn(80))
			}
			l := chanceNotes(rnd, rnd.Intn(6))
			if rnd.Intn(5) == 0 {
				if e := p.Compact(l); e == api.OK {
					sure = l
					compacts++
				}
				wantNotes(t, p.Crash(), sure, "Compact at step", step)
			} else if e := p.Append(l); e == api.OK {
				sure = slices.Concat(sure, l)
				appends++
			} else {
				got := p.Crash().Read()
				more := len(got) - len(sure)
				if more < 0 || more > len(l) || !slices.Equal(got, slices.Concat(sure, l[:more])) {
					t.Fatalf("seed %d, step %d: %v, appended were %v, and %v was being", seed, step, got, sure, l)
				}
				sure = got
			}
			wantNotes(t, p, sure, "step", step)
			if p.Append(nil) == api.ErrDead {
				deaths++
				p = p.Crash()
				p.Arm(rnd.Intn(2))
				if _, e := p.Repair(); e == api.ErrDead {
					p = p.Crash()
					p.Repair()
				}
				wantNotes(t, p, sure, "repaired at step", step)
				p = p.Crash()
			}
		}
	}
	if deaths < 1000 || appends < 1000 || compacts < 500 {
		t.Errorf("%d deaths, %d appends, %d compacts: too few to tell", deaths, appends, compacts)
	}
}

// TestP19_2_ListsInOneOrMany: how notes are cut into lists isn't seen, wherever the power goes.
func TestP19_2_ListsInOneOrMany(t *testing.T) {
	l := someNotes()
	for budget := range sizeOf(l) + 1 {
		one, many := New(), New()
		one.Arm(budget)
		many.Arm(budget)
		one.Append(l)
		for _, n := range l {
			many.Append([]api.Note{n})
		}
		if a, b := lookAt(one), lookAt(many); !a.same(b) {
			t.Fatalf("%d units: %v, one by one %v", budget, a, b)
		}
	}
}

func TestP19_3_RepairedTwiceIsRepairedOnce(t *testing.T) {
	l := someNotes()
	for cut := range sizeOf(l) + 1 {
		p := New()
		appendAll(t, p, []api.Note{seven})
		p.Arm(cut)
		p.Append(l)
		c := p.Crash()
		before, size := c.Read(), c.Size()
		gone, e := c.Repair()
		if want := 7 + cut - sizeOf(before); gone != want || e != api.OK || c.Size() != size-gone {
			t.Fatalf("cut at %d: %d, %d, %d bytes, want %d", cut, gone, e, c.Size(), want)
		}
		wantNotes(t, c, before, "once, cut at", cut)
		once := lookAt(c)
		c.Arm(0) // what is done no more wants no unit
		for range 3 {
			if n, e := c.Repair(); n != 0 || e != api.OK {
				t.Fatalf("cut at %d, again: %d, %d", cut, n, e)
			}
			if now := lookAt(c); !now.same(once) {
				t.Fatalf("cut at %d: %v, once %v", cut, now, once)
			}
			c = c.Crash()
		}
	}
}

// TestP19_3_RepairWithoutPower changes nothing, and is done later.
func TestP19_3_RepairWithoutPower(t *testing.T) {
	for bytes := 1; bytes < 9; bytes++ {
		d := torn(t, bytes)
		before := lookAt(d.tape)
		for range 3 {
			d.does(armOp(0))
			d.answers(repairOp(), 0, api.ErrDead)
			d.does(crashOp())
			if now := lookAt(d.tape); !now.same(before) {
				t.Fatalf("%v, was %v", now, before)
			}
		}
		d.answers(repairOp(), bytes, api.OK)
		d.has(6, six)
	}
}

func TestP19_3_RepairOfWhatIsWhole(t *testing.T) {
	for _, ahead := range [][]op{nil, {appendOp(six)}, {appendOp(someNotes()...), compactOp(five)}, {compactOp()}, {appendOp(bytesOf(65536)...)}, {armOp(5), appendOp(five, six), crashOp()}} {
		d := behind(t, ahead...)
		d.refused(api.OK, repairOp(), repairOp())
		d.does(armOp(0))
		d.refused(api.OK, repairOp(), repairOp())
	}
}

// TestP19_3_RepairLeavesTheOtherArea: it is emptied by the next Compact, as if nothing had been repaired.
func TestP19_3_RepairLeavesTheOtherArea(t *testing.T) {
	for _, budget := range []int{6, 7} {
		d := behind(t, appendOp(five), compactOp(six), armOp(2), appendOp(five), crashOp())
		d.answers(repairOp(), 2, api.OK)
		d.does(armOp(budget))
		if r := d.call(compactOp(five)); (r.e == api.OK) != (budget == 7) {
			t.Errorf("%d units: %d", budget, r.e)
		}
	}
}

// overlap tells whether two lists share memory, spare room too.
func overlap[A, B any](a []A, b []B) bool {
	if cap(a) == 0 || cap(b) == 0 {
		return false
	}
	var one A
	var other B
	x, y := uintptr(unsafe.Pointer(unsafe.SliceData(a))), uintptr(unsafe.Pointer(unsafe.SliceData(b)))
	return x < y+uintptr(cap(b))*unsafe.Sizeof(other) && y < x+uintptr(cap(a))*unsafe.Sizeof(one)
}

// scribble writes over a list, spare room too.
func scribble[T any](list []T, with T) {
	room := list[:cap(list)]
	for i := range room {
		room[i] = with
	}
}

// roomy is a list with room behind it, in which something stands.
func roomy(l []api.Note) []api.Note {
	return slices.Concat(l, []api.Note{{Kind: -7, A: -7}, {}, five, {Kind: 99}})[:len(l)]
}

// TestP19_4_WhatIsHandedInStays has calls that are taken, refused, and cut off; room behind the list is left alone too.
func TestP19_4_WhatIsHandedInStays(t *testing.T) {
	lists := append([][]api.Note{nil, {five}, someNotes(), bytesOf(300), bytesOf(65536), bytesOf(65537)}, wrongLists()...)
	for _, l := range lists {
		for _, budget := range []int{-1, 0, 3, 100} {
			for _, ahead := range [][]op{nil, {appendOp(six)}, {appendOp(six), compactOp(nine)}, {armOp(3), appendOp(six), crashOp()}} {
				for _, call := range []func(*Tape, []api.Note){
					func(p *Tape, l []api.Note) { p.Append(l) },
					func(p *Tape, l []api.Note) { p.Compact(l) },
				} {
					p := New()
					for _, o := range ahead {
						o.onTape(&p)
					}
					p.Arm(budget)
					handed := roomy(l)
					whole := handed[:cap(handed)]
					before := slices.Clone(whole)
					call(p, handed)
					p.Append([]api.Note{seven})
					p.Compact([]api.Note{eight})
					p.Repair()
					if !slices.Equal(whole, before) {
						t.Fatalf("%d notes, budget %d: the list was changed", len(l), budget)
					}
				}
			}
		}
	}
}

func TestP19_4_WhatIsHandedInIsNotKept(t *testing.T) {
	for _, l := range [][]api.Note{{five}, someNotes(), bytesOf(300)} {
		p := New()
		handed := roomy(l)
		p.Append(handed)
		scribble(handed, api.Note{Kind: api.JPut, A: 30, B: 39})
		wantNotes(t, p, l, "appended", len(l))
		handed = roomy(l)
		p.Append(handed)
		scribble(handed, api.Note{})
		wantNotes(t, p, slices.Concat(l, l), "appended behind", len(l))
		handed = roomy(l)
		p.Compact(handed)
		scribble(handed, api.Note{Kind: api.JPut, A: 30, B: 39})
		wantNotes(t, p, l, "compacted", len(l))
		wantNotes(t, p.Crash(), l, "crash", len(l))
		handed = roomy(l)
		c := p.Crash()
		c.Arm(sizeOf(l) - 1)
		c.Append(handed)
		scribble(handed, api.Note{})
		wantNotes(t, c.Crash(), slices.Concat(l, l[:len(l)-1]), "torn", len(l))
	}
}

func TestP19_4_AnswersAreNewMemory(t *testing.T) {
	for _, d := range append(deadOnes(t), behind(t, appendOp(someNotes()...)), torn(t, 4), behind(t, appendOp(six), compactOp(someNotes()...))) {
		want := d.tape.Read()
		keep := slices.Clone(want)
		again, crashed := d.tape.Read(), d.tape.Crash().Read()
		for _, pair := range [][2][]api.Note{{want, again}, {want, crashed}, {again, crashed}} {
			if overlap(pair[0], pair[1]) {
				t.Fatal("two answers share memory")
			}
		}
		for _, area := range d.tape.areas {
			if overlap(want, area) || overlap(again, area) {
				t.Fatal("an answer shares memory with the tape")
			}
		}
		scribble(want, api.Note{Kind: api.JPut, A: 30, B: 39})
		if !slices.Equal(again, keep) {
			t.Fatal("an answer was changed by another one")
		}
		scribble(again, api.Note{})
		wantNotes(t, d.tape, keep, "read again", 0)
		d.same()
	}
}

func TestP19_4_AnswersStayAsTheyWere(t *testing.T) {
	rnd := rand.New(rand.NewSource(3))
	p := New()
	var got, kept [][]api.Note
	for range 400 {
		chanceOp(rnd).onTape(&p)
		l := p.Read()
		got, kept = append(got, l), append(kept, slices.Clone(l))
		if rnd.Intn(2) == 0 {
			p.Append(l[:rnd.Intn(len(l)+1)]) // what was read may be handed in
		}
	}
	for i := range got {
		if !slices.Equal(got[i], kept[i]) {
			t.Fatalf("the answer %d is %v, was %v", i, got[i], kept[i])
		}
	}
}

// TestP19_4_CrashSharesNoMemory looks at the areas themselves, spare room too.
func TestP19_4_CrashSharesNoMemory(t *testing.T) {
	all := append(deadOnes(t), behind(t, appendOp(six), compactOp(five)), torn(t, 4), behind(t, appendOp(six), compactOp(someNotes()...), compactOp(five, five), repairOp()))
	for _, d := range all {
		c := d.tape.Crash()
		c2 := d.tape.Crash()
		for _, a := range d.tape.areas {
			for _, b := range c.areas {
				if overlap(a, b) {
					t.Fatal("a crash shares memory with its tape")
				}
				for _, b2 := range c2.areas {
					if overlap(b, b2) {
						t.Fatal("two crashes share memory")
					}
				}
			}
		}
	}
}

// TestP19_4_ACrashIsATapeOfItsOwn does everything to one of them, and looks at the other one.
func TestP19_4_ACrashIsATapeOfItsOwn(t *testing.T) {
	states := [][]op{
		nil, {appendOp(six)}, {appendOp(someNotes()...)}, {appendOp(six), compactOp(five)},
		{appendOp(six), compactOp(five), appendOp(nine, nine)}, {appendOp(six), armOp(3), appendOp(nine), crashOp()},
		{appendOp(six), armOp(3), appendOp(nine), crashOp(), repairOp()}, {appendOp(six), armOp(3), compactOp(nine), crashOp()},
		{appendOp(bytesOf(300)...), compactOp(bytesOf(400)...)}, {appendOp(bytesOf(300)...), armOp(25), appendOp(someNotes()...)},
		{appendOp(six), armOp(50)},
	}
	ways := [][]op{
		{appendOp(seven)}, {compactOp(seven)}, {compactOp(seven), compactOp(eight, nine)}, {repairOp(), appendOp(seven)},
		{armOp(4), appendOp(someNotes()...)}, {armOp(4), compactOp(someNotes()...)}, {armOp(0), compactOp()},
		{compactOp(), compactOp(), appendOp(bytesOf(300)...)}, {repairOp()}, {armOp(3)},
	}
	for _, state := range states {
		for _, way := range ways {
			for _, other := range ways {
				d := behind(t, state...)
				crash := &double{t: t, tape: d.tape.Crash(), w: d.w.crash()}
				second := &double{t: t, tape: d.tape.Crash(), w: d.w.crash()}
				crash.does(way...)
				d.same()
				second.same()
				d.does(other...)
				crash.same()
				second.same()
				second.does(way...)
				crash.does(repairOp(), appendOp(five))
				d.does(repairOp(), appendOp(six))
				for _, one := range []*double{d, crash, second} {
					one.same()
				}
			}
		}
	}
}

// TestP19_4_CrashLeavesTheBudget: that it was asked for changes nothing of the tape.
func TestP19_4_CrashLeavesTheBudget(t *testing.T) {
	d := behind(t, appendOp(six), armOp(9))
	c := d.tape.Crash()
	c.Arm(2)
	c.Append([]api.Note{five})
	d.left(9)
	d = behind(t, armOp(2), appendOp(five))
	d.tape.Crash().Repair()
	d.refused(api.ErrDead, appendOp(), repairOp())
}

func TestP7_TwoTapesShareNothing(t *testing.T) {
	one, two := New(), New()
	appendAll(t, one, someNotes())
	one.Compact([]api.Note{six})
	one.Arm(0)
	one.Compact(nil)
	if l := lookAt(two); !l.same(newWords().look()) {
		t.Errorf("a tape that nothing was done to: %v", l)
	}
	appendAll(t, two, []api.Note{nine})
	wantNotes(t, one, []api.Note{six}, "one", 0)
	wantNotes(t, New(), nil, "a third one", 0)
}

func TestP7_AskingChangesNothing(t *testing.T) {
	rnd := rand.New(rand.NewSource(4))
	for range 200 {
		asked, left := New(), New()
		for range 30 {
			o := chanceOp(rnd)
			if a, b := o.onTape(&asked), o.onTape(&left); a != b {
				t.Fatalf("%v: %v, where nobody asked %v", o, a, b)
			}
			for range 3 {
				asked.Read()
				asked.Size()
				asked.Crash().Repair()
			}
		}
		if a, b := lookAt(asked), lookAt(left); !a.same(b) {
			t.Fatalf("%v, where nobody asked %v", a, b)
		}
	}
}

func TestP6_NoCallPanics(t *testing.T) {
	rnd := rand.New(rand.NewSource(5))
	size := func() int { return int(rnd.Uint64()) >> rnd.Intn(64) }
	for range 300 {
		p := New()
		for range 60 {
			l := chanceNotes(rnd, rnd.Intn(6))
			for i := range l {
				if rnd.Intn(40) == 0 {
					l[i] = api.Note{Kind: size(), A: size(), B: size(), C: size()}
				}
			}
			switch rnd.Intn(6) {
			case 0:
				p.Arm(size())
			case 1, 2:
				p.Append(l)
			case 3:
				p.Compact(l)
			case 4:
				p.Repair()
			case 5:
				p = p.Crash()
			}
			if b, _ := note.Write(p.Read()); len(b) > p.Size() {
				t.Fatalf("%d bytes of notes in %d bytes", len(b), p.Size())
			}
		}
	}
}
