package intake

import (
	"bytes"
	"math"
	"math/rand"
	"slices"
	"testing"

	"stillage/api"
)

// byWords is an intake as the chapter's words have it, slow and plain: numbers that don't go round, and lists.
type byWords struct {
	window int
	next   int // counted on beyond 65535
	came   []piece
	queue  [][]byte
}

type piece struct {
	number int
	data   []byte
}

// numberOf is the number, within reach of next, whose rest by 65536 is seq; ok is false if there is none.
func (w *byWords) numberOf(seq uint16) (number int, ok bool) {
	for n := w.next - w.window; n < w.next+w.window; n++ {
		if (n%65536+65536)%65536 == int(seq) {
			return n, true
		}
	}
	return 0, false
}

// find is the place of a number among the pieces that came, or -1.
func (w *byWords) find(number int) int {
	return slices.IndexFunc(w.came, func(p piece) bool { return p.number == number })
}

func (w *byWords) take(seq uint16, data []byte) api.Errno {
	if len(data) > 256 {
		return api.ErrLong
	}
	number, ok := w.numberOf(seq)
	if !ok {
		return api.ErrFar
	}
	if number < w.next || w.find(number) >= 0 {
		return api.ErrTwice
	}
	if len(w.queue) >= w.window {
		return api.ErrFar
	}
	w.came = append(w.came, piece{number, slices.Clone(data)})
	for at := w.find(w.next); at >= 0; at = w.find(w.next) {
		w.queue = append(w.queue, w.came[at].data)
		w.came = slices.Delete(w.came, at, at+1)
		w.next++
	}
	return api.OK
}

func (w *byWords) get() ([]byte, api.Errno) {
	if len(w.queue) == 0 {
		return nil, api.ErrNone
	}
	first := w.queue[0]
	w.queue = w.queue[1:]
	return first, api.OK
}

func (w *byWords) waiting() []uint16 {
	var out []uint16
	for n := w.next; n < w.next+w.window; n++ {
		if w.find(n) >= 0 {
			out = append(out, uint16(n))
		}
	}
	return out
}

// double has an intake and its slow form side by side, and holds each call of the one against the other.
type double struct {
	t *testing.T
	i *Intake
	w *byWords
}

func newDouble(t *testing.T, window int, first uint16) *double {
	t.Helper()
	return &double{t, newIntake(t, window, first), &byWords{window: window, next: int(first)}}
}

func newIntake(t *testing.T, window int, first uint16) *Intake {
	t.Helper()
	i, e := New(window, first)
	if i == nil || e != api.OK {
		t.Fatalf("New(%d, %d): %v, %v", window, first, i, e)
	}
	return i
}

func (d *double) take(seq uint16, data []byte) api.Errno {
	d.t.Helper()
	got, want := d.i.Take(seq, data), d.w.take(seq, data)
	if got != want {
		d.t.Fatalf("window %d: Take(%d, %d bytes): %v, want %v", d.w.window, seq, len(data), got, want)
	}
	d.same()
	return got
}

func (d *double) get() []byte {
	d.t.Helper()
	got, e := d.i.Get()
	want, wantE := d.w.get()
	if !bytes.Equal(got, want) || e != wantE {
		d.t.Fatalf("window %d: Get: %v, %v, want %v, %v", d.w.window, got, e, want, wantE)
	}
	d.same()
	return got
}

func (d *double) same() {
	d.t.Helper()
	wantState(d.t, d.i, uint16(d.w.next), len(d.w.queue), d.w.waiting()...)
}

func wantState(t *testing.T, i *Intake, next uint16, ready int, waiting ...uint16) {
	t.Helper()
	if got := i.Next(); got != next {
		t.Fatalf("Next: %d, want %d", got, next)
	}
	if got := i.Ready(); got != ready {
		t.Fatalf("Ready: %d, want %d", got, ready)
	}
	if got := i.Waiting(); !slices.Equal(got, waiting) {
		t.Fatalf("Waiting: %v, want %v", got, waiting)
	}
}

func wantTake(t *testing.T, i *Intake, seq uint16, data []byte, want api.Errno) {
	t.Helper()
	if got := i.Take(seq, data); got != want {
		t.Fatalf("Take(%d, %d bytes): %v, want %v", seq, len(data), got, want)
	}
}

func wantGet(t *testing.T, i *Intake, want []byte) {
	t.Helper()
	if got, e := i.Get(); !bytes.Equal(got, want) || e != api.OK {
		t.Fatalf("Get: %v, %v, want %v", got, e, want)
	}
}

func wantNoGet(t *testing.T, i *Intake) {
	t.Helper()
	if got, e := i.Get(); len(got) != 0 || e != api.ErrNone {
		t.Fatalf("Get of an empty queue: %v, %v", got, e)
	}
}

// of is the data of a number in these tests.
func of(number int) []byte {
	return []byte{byte(number >> 16), byte(number >> 8), byte(number)}
}

// firsts are numbers to begin with: those where numbers go round, within reach of the greatest window, and others.
func firsts() []uint16 {
	return []uint16{0, 1, 2, 63, 64, 65, 1000, 32767, 32768, 65471, 65472, 65473, 65534, 65535}
}

func TestP4_1_NewRefusesWindowsOutside(t *testing.T) {
	for _, window := range []int{0, -1, -2, -64, -65, 65, 66, 128, 256, 65536, 65537, 1 << 32, 1<<32 + 1, math.MinInt, math.MinInt + 1, math.MaxInt - 1, math.MaxInt} {
		for _, first := range firsts() {
			if i, e := New(window, first); i != nil || e != api.ErrRange {
				t.Errorf("New(%d, %d): %v, %v", window, first, i, e)
			}
		}
	}
}

func TestP4_1_NewHasNothingYet(t *testing.T) {
	for window := 1; window <= 64; window++ {
		for _, first := range firsts() {
			i := newIntake(t, window, first)
			wantState(t, i, first, 0)
			wantNoGet(t, i)
			wantState(t, i, first, 0)
		}
	}
}

func TestP4_1_AsToldInTheChapter(t *testing.T) {
	i := newIntake(t, 4, 65535)
	wantTake(t, i, 0, of(0), api.OK)
	wantState(t, i, 65535, 0, 0)
	wantTake(t, i, 65535, of(65535), api.OK)
	wantState(t, i, 1, 2)
	wantTake(t, i, 65535, of(65535), api.ErrTwice)
	wantTake(t, i, 9, of(9), api.ErrFar)
	wantState(t, i, 1, 2)
	wantGet(t, i, of(65535))
	wantGet(t, i, of(0))
	wantNoGet(t, i)
}

func TestP4_1_TheEndsOfTheWindow(t *testing.T) {
	for window := 1; window <= 64; window++ {
		for _, first := range firsts() {
			size := uint16(window)
			i := newIntake(t, window, first)
			wantTake(t, i, first+size, nil, api.ErrFar)
			wantTake(t, i, first-size-1, nil, api.ErrFar)
			wantTake(t, i, first-size, nil, api.ErrTwice)
			wantTake(t, i, first-1, nil, api.ErrTwice)
			wantState(t, i, first, 0)
			wantTake(t, i, first+size-1, of(1), api.OK)
			if window == 1 {
				wantState(t, i, first+1, 1)
			} else {
				wantState(t, i, first, 0, first+size-1)
				wantTake(t, i, first, of(2), api.OK)
			}
			// One was taken over, so all the ends are one behind.
			if window > 2 {
				wantTake(t, i, first+size, of(3), api.OK)
				wantTake(t, i, first+size+1, nil, api.ErrFar)
				wantTake(t, i, first-size, nil, api.ErrFar)
				wantTake(t, i, first-size+1, nil, api.ErrTwice)
				wantTake(t, i, first, nil, api.ErrTwice)
			}
		}
	}
}

func TestP4_1_EveryNumberOfAFreshIntake(t *testing.T) {
	for _, window := range []int{1, 2, 3, 63, 64} {
		for _, first := range firsts() {
			i := newIntake(t, window, first)
			// Downward from the number ahead of first, all the way round, so that first itself comes last.
			for steps := 65535; steps >= window; steps-- {
				want := api.ErrFar
				if steps >= 65536-window {
					want = api.ErrTwice
				}
				wantTake(t, i, first+uint16(steps), nil, want)
			}
			for steps := window - 1; steps > 0; steps-- {
				wantTake(t, i, first+uint16(steps), nil, api.OK)
				wantTake(t, i, first+uint16(steps), nil, api.ErrTwice)
			}
			wantTake(t, i, first, nil, api.OK)
			wantState(t, i, first+uint16(window), window)
		}
	}
}

func TestP4_1_LengthsOfData(t *testing.T) {
	for _, n := range []int{0, 1, 2, 255, 256} {
		i := newIntake(t, 2, 7)
		data := bytes.Repeat([]byte{0xA5}, n)
		wantTake(t, i, 8, data, api.OK)
		wantTake(t, i, 7, data, api.OK)
		wantState(t, i, 9, 2)
		wantGet(t, i, data)
		wantGet(t, i, data)
		wantNoGet(t, i)
	}
	for _, n := range []int{257, 258, 511, 512, 513, 4096, 65536, 65536 + 3} {
		i := newIntake(t, 2, 7)
		wantTake(t, i, 7, make([]byte, n), api.ErrLong)
		wantState(t, i, 7, 0)
	}
}

func TestP4_1_APieceOfNoByteIsAPiece(t *testing.T) {
	for _, data := range [][]byte{nil, {}} {
		i := newIntake(t, 3, 65535)
		wantTake(t, i, 0, data, api.OK)
		wantState(t, i, 65535, 0, 0)
		wantTake(t, i, 0, of(5), api.ErrTwice)
		wantTake(t, i, 65535, data, api.OK)
		wantState(t, i, 1, 2)
		wantGet(t, i, nil)
		wantGet(t, i, nil)
		wantNoGet(t, i)
	}
}

func TestP4_1_WaitingIsInOrderFromNextOn(t *testing.T) {
	for _, first := range firsts() {
		i := newIntake(t, 64, first)
		var want []uint16
		for steps := range 63 {
			want = append(want, first+1+uint16(steps))
		}
		for k := range 63 {
			// 5 and 63 have no divisor in common: each number comes once, in no order.
			wantTake(t, i, want[k*5%63], nil, api.OK)
		}
		wantState(t, i, first, 0, want...)
		wantTake(t, i, first, nil, api.OK)
		wantState(t, i, first+64, 64)
	}
}

func TestP4_1_SoManyReadyAsTheWindowSays(t *testing.T) {
	for window := 1; window <= 64; window++ {
		for _, first := range []uint16{0, 65535, 65500, 300} {
			d := newDouble(t, window, first)
			next := first
			for range window - 1 {
				d.take(next, of(int(next)))
				next++
			}
			wantTake(t, d.i, next, of(int(next)), api.OK) // one less than the window was ready
			d.w.take(next, of(int(next)))
			next++
			for steps := range uint16(window) {
				if e := d.take(next+steps, nil); e != api.ErrFar {
					t.Fatalf("window %d: Take(%d) beside so many that are ready: %v", window, next+steps, e)
				}
			}
			wantGet(t, d.i, of(int(first)))
			d.w.get()
			if e := d.take(next+uint16(window)-1, nil); e != api.OK {
				t.Fatalf("window %d: Take(%d) beside one less: %v", window, next+uint16(window)-1, e)
			}
		}
	}
}

func TestP4_1_AQueueOfTwiceTheWindowLessOne(t *testing.T) {
	for window := 1; window <= 64; window++ {
		for _, first := range []uint16{0, 65535, 65450} {
			i := newIntake(t, window, first)
			most := 2*window - 1
			for n := range window - 1 {
				wantTake(t, i, first+uint16(n), of(n), api.OK)
			}
			for n := most - 1; n >= window-1; n-- {
				wantTake(t, i, first+uint16(n), of(n), api.OK)
			}
			wantState(t, i, first+uint16(most), most)
			for n := range most {
				want := api.ErrFar
				if most-n < window {
					want = api.OK
				}
				// The last of the window: beside a window of 1 it is next itself.
				last := first + uint16(most+window-1)
				if i.Take(last, of(n)) != want {
					t.Fatalf("window %d: Take(%d) beside %d that are ready: not %v", window, last, most-n, want)
				}
				if want == api.OK {
					break
				}
				wantState(t, i, first+uint16(most), most-n)
				wantGet(t, i, of(n))
			}
		}
	}
}

func TestP4_1_TheErrorThatComesFirst(t *testing.T) {
	long := make([]byte, 257)
	i := newIntake(t, 3, 65534)
	wantTake(t, i, 65535, of(1), api.OK)
	wantTake(t, i, 65534, of(0), api.OK)
	wantTake(t, i, 2, of(4), api.OK)
	wantTake(t, i, 0, of(2), api.OK)
	wantState(t, i, 1, 3, 2) // so many are ready as the window says
	for _, c := range []struct {
		why  string
		seq  uint16
		data []byte
		want api.Errno
	}{
		{"long, and so many are ready", 1, long, api.ErrLong},
		{"long, waits, and so many are ready", 2, long, api.ErrLong},
		{"long, taken over, and so many are ready", 0, long, api.ErrLong},
		{"long, and outside", 4, long, api.ErrLong},
		{"long, and outside ahead of next", 65533, long, api.ErrLong},
		{"long, and as far as can be", 32769, long, api.ErrLong},
		{"waits, and so many are ready", 2, nil, api.ErrTwice},
		{"taken over, and so many are ready", 0, nil, api.ErrTwice},
		{"the farthest ahead of next, and so many are ready", 65534, nil, api.ErrTwice},
		{"the one ahead of that", 65533, nil, api.ErrFar},
		{"next, and so many are ready", 1, nil, api.ErrFar},
		{"the last of the window, and so many are ready", 3, nil, api.ErrFar},
		{"the one behind that", 4, nil, api.ErrFar},
		{"as far as can be", 32769, nil, api.ErrFar},
	} {
		if got := i.Take(c.seq, c.data); got != c.want {
			t.Errorf("%s: Take(%d): %v, want %v", c.why, c.seq, got, c.want)
		}
		wantState(t, i, 1, 3, 2)
	}
	wantGet(t, i, of(0))
	wantTake(t, i, 1, of(3), api.OK)
	for n := 1; n <= 4; n++ {
		wantGet(t, i, of(n))
	}
	wantNoGet(t, i)
}

func TestP4_1_LongIsToldFirstWhereNothingIsReady(t *testing.T) {
	long := make([]byte, 257)
	i := newIntake(t, 3, 65534)
	wantTake(t, i, 65535, of(1), api.OK)
	for _, seq := range []uint16{65534, 65535, 0, 1, 65533, 65531, 65530, 32766} {
		wantTake(t, i, seq, long, api.ErrLong)
		wantState(t, i, 65534, 0, 65535)
	}
}

// TestP4_1_EveryShortListOfCalls makes all lists of five calls: each number about the window, and Get.
func TestP4_1_EveryShortListOfCalls(t *testing.T) {
	const calls = 5
	for window := 1; window <= 3; window++ {
		kinds := 2*window + 3 // a Take of each number from one outside to the other, and a Get
		lists := 1
		for range calls {
			lists *= kinds
		}
		for list := range lists {
			d := newDouble(t, window, 65534)
			for rest, k := list, 0; k < calls; rest, k = rest/kinds, k+1 {
				if kind := rest % kinds; kind == kinds-1 {
					d.get()
				} else {
					d.take(uint16(d.w.next-window-1+kind), of(k))
				}
			}
		}
	}
}

func TestP4_1_LongListsOfCalls(t *testing.T) {
	for window := 1; window <= 64; window++ {
		for k, first := range firsts() {
			r := rand.New(rand.NewSource(int64(window*100 + k)))
			d := newDouble(t, window, first)
			for range 400 {
				switch r.Intn(8) {
				case 0, 1:
					d.get()
				case 2:
					d.take(uint16(r.Intn(65536)), nil)
				case 3:
					d.take(uint16(d.w.next), make([]byte, 250+r.Intn(10)))
				default:
					data := make([]byte, r.Intn(4))
					r.Read(data)
					d.take(uint16(d.w.next-window-2+r.Intn(2*window+4)), data)
				}
			}
		}
	}
}

func TestP4_2_InOrder(t *testing.T) {
	for _, window := range []int{1, 2, 64} {
		for _, first := range []uint16{0, 65535} {
			i := newIntake(t, window, first)
			// More than once round.
			for n := range 70000 {
				wantTake(t, i, first+uint16(n), of(n), api.OK)
				wantGet(t, i, of(n))
			}
			wantNoGet(t, i)
			wantState(t, i, uint16(int(first)+70000), 0)
		}
	}
}

func TestP4_2_TheOtherWayRound(t *testing.T) {
	for _, window := range []int{1, 2, 5, 64} {
		for _, first := range []uint16{0, 65535, 40000} {
			i := newIntake(t, window, first)
			for turns := range 3 {
				from := turns * window
				for n := from + window - 1; n >= from; n-- {
					wantNoGet(t, i)
					wantTake(t, i, first+uint16(n), of(n), api.OK)
				}
				for n := from; n < from+window; n++ {
					wantGet(t, i, of(n))
				}
				wantNoGet(t, i)
			}
		}
	}
}

func TestP4_2_SeveralTimesAndAsItCameFirst(t *testing.T) {
	for _, first := range []uint16{0, 65535} {
		i := newIntake(t, 4, first)
		for n := range 4 {
			seq := first + uint16(3-n)
			wantTake(t, i, seq, of(3-n), api.OK)
			for again := range 3 {
				wantTake(t, i, seq, []byte{99, byte(again)}, api.ErrTwice)
			}
		}
		for n := range 4 {
			wantTake(t, i, first+uint16(n), []byte{99}, api.ErrTwice)
		}
		for n := range 4 {
			wantGet(t, i, of(n))
			wantTake(t, i, first+uint16(n), []byte{99}, api.ErrTwice)
		}
		wantNoGet(t, i)
	}
}

func TestP4_2_WhatWasRefusedHasNotCome(t *testing.T) {
	i := newIntake(t, 2, 65535)
	wantTake(t, i, 65535, of(0), api.OK)
	wantTake(t, i, 0, of(1), api.OK)
	wantTake(t, i, 1, []byte("refused, since two are ready"), api.ErrFar)
	wantGet(t, i, of(0))
	wantTake(t, i, 1, make([]byte, 257), api.ErrLong)
	wantTake(t, i, 3, []byte("refused, since it is far"), api.ErrFar)
	wantTake(t, i, 1, of(2), api.OK)
	wantGet(t, i, of(1))
	wantGet(t, i, of(2))
	wantNoGet(t, i)
	wantState(t, i, 2, 0)
}

// TestP4_2_WhateverComes throws numbers at an intake and looks at nothing but what is got.
func TestP4_2_WhateverComes(t *testing.T) {
	for _, window := range []int{1, 2, 3, 8, 63, 64} {
		for _, first := range []uint16{0, 65535} {
			r := rand.New(rand.NewSource(int64(window)))
			i := newIntake(t, window, first)
			cameFirst := map[int][]byte{}
			next, got := 0, 0
			for try := range 40000 {
				n := next - window + r.Intn(2*window+2)
				data := of(try)
				if i.Take(first+uint16(n), data) == api.OK {
					if _, twice := cameFirst[n]; twice || n < 0 {
						t.Fatalf("window %d: the number %d came twice", window, n)
					}
					cameFirst[n] = data
				}
				for cameFirst[next] != nil {
					next++
				}
				if r.Intn(2) == 0 {
					continue
				}
				if piece, e := i.Get(); e == api.OK {
					if !bytes.Equal(piece, cameFirst[got]) {
						t.Fatalf("window %d: the piece %d is %v, want %v", window, got, piece, cameFirst[got])
					}
					got++
				} else if got != next {
					t.Fatalf("window %d: the piece %d is left out", window, got)
				}
			}
			if got < 1000 {
				t.Errorf("window %d: only %d were got", window, got)
			}
		}
	}
}

func TestP4_3_TakeKeepsNothingOfItsData(t *testing.T) {
	i := newIntake(t, 4, 65535)
	room := []byte{0, 0, 0, 77, 78, 79}
	for _, n := range []int{0, 3, 2, 1} { // one that is taken over at once, two that wait, and the one that sets them free
		copy(room, of(n))
		wantTake(t, i, 65535+uint16(n), room[:3], api.OK)
		if !bytes.Equal(room, append(of(n), 77, 78, 79)) {
			t.Fatalf("Take changed its data or the room behind: %v", room)
		}
		copy(room, "xyz")
	}
	for n := range 4 {
		wantGet(t, i, of(n))
	}
}

func TestP4_3_ARefusedTakeLeavesItsData(t *testing.T) {
	i := newIntake(t, 1, 0)
	wantTake(t, i, 0, of(0), api.OK)
	for _, c := range []struct {
		seq  uint16
		long int
		want api.Errno
	}{{1, 257, api.ErrLong}, {2, 3, api.ErrFar}, {0, 3, api.ErrTwice}, {1, 3, api.ErrFar}} {
		room := bytes.Repeat([]byte{5}, c.long+4)
		wantTake(t, i, c.seq, room[:c.long], c.want)
		if !bytes.Equal(room, bytes.Repeat([]byte{5}, c.long+4)) {
			t.Errorf("Take(%d) changed its data or the room behind", c.seq)
		}
	}
	wantGet(t, i, of(0))
}

func TestP4_3_WhatIsGotIsNewMemory(t *testing.T) {
	for _, long := range []int{0, 1, 8, 255, 256} {
		i := newIntake(t, 3, 65534)
		room := bytes.Repeat([]byte{1}, long+4)
		was := slices.Clone(room)
		for n := range 3 { // the same memory handed in three times
			wantTake(t, i, 65534+uint16(n), room[:long], api.OK)
		}
		for range 3 {
			got, e := i.Get()
			if e != api.OK || !bytes.Equal(got, was[:long]) {
				t.Fatalf("Get: %v, %v", got, e)
			}
			got = got[:cap(got)]
			for k := range got {
				got[k] = 200
			}
			if !bytes.Equal(room, was) {
				t.Fatalf("what is got shares memory with what was handed in: %v", room)
			}
		}
	}
}

func TestP4_3_WaitingIsNewMemory(t *testing.T) {
	i := newIntake(t, 5, 65533)
	for _, seq := range []uint16{1, 65535, 0} {
		wantTake(t, i, seq, of(int(seq)), api.OK)
	}
	one, other := i.Waiting(), i.Waiting()
	one = one[:cap(one)]
	for k := range one {
		one[k] = 65534
	}
	if !slices.Equal(other, []uint16{65535, 0, 1}) {
		t.Fatalf("two answers share memory: %v", other)
	}
	wantState(t, i, 65533, 0, 65535, 0, 1)
	wantTake(t, i, 65533, nil, api.OK)
	wantTake(t, i, 65534, nil, api.OK)
	wantState(t, i, 2, 5)
	if !slices.Equal(other, []uint16{65535, 0, 1}) {
		t.Fatalf("an answer changed later: %v", other)
	}
}

func TestP4_3_TwoIntakesShareNothing(t *testing.T) {
	a, b := newIntake(t, 2, 0), newIntake(t, 2, 0)
	wantTake(t, a, 0, of(1), api.OK)
	wantTake(t, b, 1, of(2), api.OK)
	wantState(t, a, 1, 1)
	wantState(t, b, 0, 0, 1)
	wantNoGet(t, b)
	wantGet(t, a, of(1))
}
