package retry

import (
	"bytes"
	"math"
	"math/rand"
	"slices"
	"testing"

	"stillage/api"
)

// byWords is a sender as the chapter's words have it, slow and plain: numbers that don't go round, and all that ever was put.
type byWords struct {
	window, pause, times int
	next                 int // counted on beyond 65535
	now                  int // how many ticks went by
	put                  []entry
	dead                 bool
}

type entry struct {
	number int
	data   []byte
	sentAt []int
	acked  bool
}

// open is the places, in put, of what isn't acknowledged.
func (w *byWords) open() []int {
	var places []int
	for k, p := range w.put {
		if !p.acked {
			places = append(places, k)
		}
	}
	return places
}

// first is the first number that isn't acknowledged; beside nothing it is the next one.
func (w *byWords) first() int {
	if open := w.open(); len(open) > 0 {
		return w.put[open[0]].number
	}
	return w.next
}

func (w *byWords) putOne(data []byte) (uint16, api.Errno) {
	if w.dead {
		return 0, api.ErrDead
	}
	if len(data) > 256 {
		return 0, api.ErrLong
	}
	count := 0
	for n := w.first(); n <= w.next; n++ {
		count++
	}
	if count > w.window {
		return 0, api.ErrFull
	}
	w.put = append(w.put, entry{number: w.next, data: slices.Clone(data)})
	w.next++
	return uint16((w.next - 1) % 65536), api.OK
}

func (w *byWords) tick() ([]Out, api.Errno) {
	if w.dead {
		return nil, api.ErrDead
	}
	w.now++
	var outs []Out
	for _, k := range w.open() {
		p := &w.put[k]
		if len(p.sentAt) > 0 && p.sentAt[len(p.sentAt)-1]+w.pause != w.now {
			continue
		}
		if len(p.sentAt) == w.times {
			w.dead = true
			return nil, api.ErrDead
		}
		p.sentAt = append(p.sentAt, w.now)
		outs = append(outs, Out{uint16(p.number % 65536), p.data})
	}
	return outs, api.OK
}

func (w *byWords) ack(seq uint16) api.Errno {
	if w.dead {
		return api.ErrDead
	}
	for _, k := range w.open() {
		if w.put[k].number%65536 == int(seq) {
			w.put[k].acked = true
			return api.OK
		}
	}
	return api.ErrNone
}

func (w *byWords) ackTo(seq uint16) (int, api.Errno) {
	if w.dead {
		return 0, api.ErrDead
	}
	for n := w.first(); n <= w.next; n++ {
		if n%65536 != int(seq) {
			continue
		}
		went := 0
		for _, k := range w.open() {
			if w.put[k].number < n {
				w.put[k].acked = true
				went++
			}
		}
		return went, api.OK
	}
	return 0, api.ErrNone
}

func (w *byWords) numbers() []uint16 {
	var out []uint16
	for _, k := range w.open() {
		out = append(out, uint16(w.put[k].number%65536))
	}
	return out
}

// double has a sender and its slow form side by side, and holds each call of the one against the other.
type double struct {
	t *testing.T
	s *Sender
	w *byWords
}

func newDouble(t *testing.T, window, pause, times int, first uint16) *double {
	t.Helper()
	return &double{t, newSender(t, window, pause, times, first), &byWords{window: window, pause: pause, times: times, next: int(first)}}
}

func newSender(t *testing.T, window, pause, times int, first uint16) *Sender {
	t.Helper()
	s, e := New(window, pause, times, first)
	if s == nil || e != api.OK {
		t.Fatalf("New(%d, %d, %d, %d): %v, %v", window, pause, times, first, s, e)
	}
	return s
}

func (d *double) put(data []byte) {
	d.t.Helper()
	got, e := d.s.Put(data)
	if want, wantE := d.w.putOne(data); got != want || e != wantE {
		d.t.Fatalf("window %d: Put(%d bytes): %d, %v, want %d, %v", d.w.window, len(data), got, e, want, wantE)
	}
	d.same()
}

func (d *double) tick() {
	d.t.Helper()
	got, e := d.s.Tick()
	if want, wantE := d.w.tick(); !sameOuts(got, want) || e != wantE {
		d.t.Fatalf("pause %d, times %d: Tick: %v, %v, want %v, %v", d.w.pause, d.w.times, got, e, want, wantE)
	}
	d.same()
}

func (d *double) ack(seq uint16) {
	d.t.Helper()
	if got, want := d.s.Ack(seq), d.w.ack(seq); got != want {
		d.t.Fatalf("window %d: Ack(%d): %v, want %v", d.w.window, seq, got, want)
	}
	d.same()
}

func (d *double) ackTo(seq uint16) {
	d.t.Helper()
	got, e := d.s.AckTo(seq)
	if want, wantE := d.w.ackTo(seq); got != want || e != wantE {
		d.t.Fatalf("window %d: AckTo(%d): %d, %v, want %d, %v", d.w.window, seq, got, e, want, wantE)
	}
	d.same()
}

func (d *double) same() {
	d.t.Helper()
	wantState(d.t, d.s, d.w.dead, d.w.numbers()...)
}

func sameOuts(a, b []Out) bool {
	return slices.EqualFunc(a, b, func(x, y Out) bool { return x.Seq == y.Seq && bytes.Equal(x.Data, y.Data) })
}

func wantState(t *testing.T, s *Sender, dead bool, open ...uint16) {
	t.Helper()
	if got := s.Open(); !slices.Equal(got, open) {
		t.Fatalf("Open: %v, want %v", got, open)
	}
	if got := s.Dead(); got != dead {
		t.Fatalf("Dead: %v, want %v", got, dead)
	}
}

func wantPut(t *testing.T, s *Sender, data []byte, want uint16) {
	t.Helper()
	if got, e := s.Put(data); got != want || e != api.OK {
		t.Fatalf("Put(%d bytes): %d, %v, want %d", len(data), got, e, want)
	}
}

func wantNoPut(t *testing.T, s *Sender, data []byte, want api.Errno) {
	t.Helper()
	if got, e := s.Put(data); got != 0 || e != want {
		t.Fatalf("Put(%d bytes): %d, %v, want 0, %v", len(data), got, e, want)
	}
}

// wantTick makes a tick, and wants these numbers to be sent, each with its data of these tests.
func wantTick(t *testing.T, s *Sender, want ...uint16) {
	t.Helper()
	var outs []Out
	for _, seq := range want {
		outs = append(outs, Out{seq, of(seq)})
	}
	if got, e := s.Tick(); !sameOuts(got, outs) || e != api.OK {
		t.Fatalf("Tick: %v, %v, want %v", got, e, outs)
	}
}

// wantQuiet makes so many ticks, at which nothing is sent.
func wantQuiet(t *testing.T, s *Sender, ticks int) {
	t.Helper()
	for k := range ticks {
		if got, e := s.Tick(); len(got) != 0 || e != api.OK {
			t.Fatalf("Tick %d of %d: %v, %v, want none", k+1, ticks, got, e)
		}
	}
}

func wantDeadTick(t *testing.T, s *Sender) {
	t.Helper()
	if got, e := s.Tick(); len(got) != 0 || e != api.ErrDead || !s.Dead() {
		t.Fatalf("Tick: %v, %v, dead %v, want ErrDead", got, e, s.Dead())
	}
}

func wantAck(t *testing.T, s *Sender, seq uint16, want api.Errno) {
	t.Helper()
	if got := s.Ack(seq); got != want {
		t.Fatalf("Ack(%d): %v, want %v", seq, got, want)
	}
}

func wantAckTo(t *testing.T, s *Sender, seq uint16, want int) {
	t.Helper()
	if got, e := s.AckTo(seq); got != want || e != api.OK {
		t.Fatalf("AckTo(%d): %d, %v, want %d", seq, got, e, want)
	}
}

func wantNoAckTo(t *testing.T, s *Sender, seq uint16, want api.Errno) {
	t.Helper()
	if got, e := s.AckTo(seq); got != 0 || e != want {
		t.Fatalf("AckTo(%d): %d, %v, want 0, %v", seq, got, e, want)
	}
}

// of is the data of a number in these tests.
func of(seq uint16) []byte {
	return []byte{byte(seq >> 8), byte(seq), 7}
}

// fill puts so many pieces, each with its data of these tests.
func fill(t *testing.T, s *Sender, first uint16, count int) {
	t.Helper()
	for k := range count {
		seq := first + uint16(k)
		wantPut(t, s, of(seq), seq)
	}
}

// from is so many numbers from first on.
func from(first uint16, count int) []uint16 {
	var out []uint16
	for k := range count {
		out = append(out, first+uint16(k))
	}
	return out
}

// firsts are numbers to begin with: those where numbers go round, within reach of the greatest window, and others.
func firsts() []uint16 {
	return []uint16{0, 1, 63, 64, 1000, 32704, 32767, 32768, 65471, 65472, 65473, 65534, 65535}
}

func TestP5_1_NewRefusesWhatIsOutside(t *testing.T) {
	ends := []int{math.MinInt, math.MinInt + 1, -65536, -1000, -64, -20, -1, 0, 1 << 32, 1<<32 + 1, 1 << 62, math.MaxInt - 1, math.MaxInt}
	refused := func(window, pause, times int) {
		t.Helper()
		for _, first := range []uint16{0, 9, 65535} {
			if s, e := New(window, pause, times, first); s != nil || e != api.ErrRange {
				t.Errorf("New(%d, %d, %d, %d): %v, %v", window, pause, times, first, s, e)
			}
		}
	}
	windows := append([]int{65, 66, 128, 256, 1000, 65537}, ends...)
	pauses := append([]int{1001, 1002, 1024, 2000, 65537}, ends...)
	times := append([]int{21, 22, 64, 256, 1000, 65537}, ends...)
	for _, n := range windows {
		refused(n, 1, 1)
		refused(n, 1000, 20)
	}
	for _, n := range pauses {
		refused(1, n, 1)
		refused(64, n, 20)
	}
	for _, n := range times {
		refused(1, 1, n)
		refused(64, 1000, n)
	}
	for k := range ends {
		refused(windows[k], pauses[len(ends)-1-k], 1)
		refused(windows[k], 1, times[k])
		refused(1, pauses[k], times[len(ends)-1-k])
		refused(windows[k], pauses[k], times[k])
	}
}

func TestP5_1_NewTakesWhatIsWithin(t *testing.T) {
	for window := 1; window <= 64; window++ {
		for _, pause := range []int{1, 2, 64, 65, 999, 1000} {
			for times := 1; times <= 20; times++ {
				wantState(t, newSender(t, window, pause, times, 65535), false)
			}
		}
	}
	for pause := 1; pause <= 1000; pause++ {
		wantState(t, newSender(t, 64, pause, 20, 0), false)
	}
}

func TestP5_1_NewHasNothingYet(t *testing.T) {
	for _, first := range firsts() {
		s := newSender(t, 64, 1, 1, first)
		wantState(t, s, false)
		wantQuiet(t, s, 5)
		wantAck(t, s, first, api.ErrNone)
		wantNoAckTo(t, s, first-1, api.ErrNone)
		wantNoAckTo(t, s, first+1, api.ErrNone)
		wantAckTo(t, s, first, 0)
		wantState(t, s, false)
		wantPut(t, s, nil, first)
	}
}

func TestP5_1_AsToldInTheChapter(t *testing.T) {
	s := newSender(t, 2, 3, 2, 9)
	wantPut(t, s, of(9), 9)
	wantTick(t, s, 9)
	wantQuiet(t, s, 2)
	wantTick(t, s, 9)
	wantQuiet(t, s, 2)
	wantState(t, s, false, 9)
	wantDeadTick(t, s)
	wantState(t, s, true, 9)
}

func TestP5_1_NumbersGoRound(t *testing.T) {
	for _, window := range []int{1, 2, 64} {
		for _, first := range []uint16{0, 65535} {
			s := newSender(t, window, 1000, 20, first)
			// More than once round.
			for n := range 70000 {
				seq := first + uint16(n)
				wantPut(t, s, nil, seq)
				if n%2 == 0 {
					wantAck(t, s, seq, api.OK)
				} else {
					wantAckTo(t, s, seq+1, 1)
				}
			}
			wantState(t, s, false)
		}
	}
}

func TestP5_1_SoManyNumbersAsTheWindowSays(t *testing.T) {
	for window := 1; window <= 64; window++ {
		for _, first := range firsts() {
			s := newSender(t, window, 5, 3, first)
			fill(t, s, first, window)
			wantNoPut(t, s, nil, api.ErrFull)
			wantState(t, s, false, from(first, window)...)
			wantTick(t, s, from(first, window)...)
			wantNoPut(t, s, nil, api.ErrFull)
			wantAck(t, s, first, api.OK)
			behind := first + uint16(window)
			wantPut(t, s, of(behind), behind)
			wantNoPut(t, s, nil, api.ErrFull)
			wantState(t, s, false, from(first+1, window)...)
			wantTick(t, s, behind)
		}
	}
}

func TestP5_1_APieceInTheMiddleMakesNoRoom(t *testing.T) {
	for window := 2; window <= 64; window++ {
		for _, first := range firsts() {
			s := newSender(t, window, 5, 3, first)
			fill(t, s, first, window)
			for k := 1; k < window; k++ {
				wantAck(t, s, first+uint16(k), api.OK)
				wantNoPut(t, s, nil, api.ErrFull)
			}
			wantState(t, s, false, first)
			wantAck(t, s, first, api.OK)
			wantState(t, s, false)
			fill(t, s, first+uint16(window), window)
			wantNoPut(t, s, nil, api.ErrFull)
		}
	}
}

func TestP5_1_RoomFromTheFirstThatIsLeft(t *testing.T) {
	for _, first := range firsts() {
		s := newSender(t, 4, 5, 3, first)
		fill(t, s, first, 4)
		wantAck(t, s, first+1, api.OK)
		wantAck(t, s, first+3, api.OK)
		wantNoPut(t, s, nil, api.ErrFull)
		wantAck(t, s, first, api.OK) // first+2 is the first now: two numbers are free
		fill(t, s, first+4, 2)
		wantNoPut(t, s, nil, api.ErrFull)
		wantState(t, s, false, first+2, first+4, first+5)
		wantTick(t, s, first+2, first+4, first+5)
	}
}

func TestP5_1_LengthsOfData(t *testing.T) {
	for _, n := range []int{0, 1, 2, 255, 256} {
		s := newSender(t, 2, 2, 2, 65535)
		data := bytes.Repeat([]byte{0xA5}, n)
		wantPut(t, s, data, 65535)
		wantPut(t, s, data, 0)
		for range 2 {
			got, e := s.Tick()
			if e != api.OK || !sameOuts(got, []Out{{65535, data}, {0, data}}) {
				t.Fatalf("Tick: %v, %v", got, e)
			}
			wantQuiet(t, s, 1)
		}
	}
	for _, n := range []int{257, 258, 511, 512, 513, 4096, 65536, 65536 + 3} {
		s := newSender(t, 2, 2, 2, 65535)
		wantNoPut(t, s, make([]byte, n), api.ErrLong)
		wantState(t, s, false)
		wantQuiet(t, s, 3)
		wantPut(t, s, nil, 65535)
	}
}

func TestP5_1_APieceOfNoByteIsAPiece(t *testing.T) {
	for _, data := range [][]byte{nil, {}} {
		s := newSender(t, 1, 1, 2, 0)
		wantPut(t, s, data, 0)
		wantState(t, s, false, 0)
		wantNoPut(t, s, data, api.ErrFull)
		for range 2 {
			if got, e := s.Tick(); e != api.OK || !sameOuts(got, []Out{{0, nil}}) {
				t.Fatalf("Tick: %v, %v", got, e)
			}
		}
		wantDeadTick(t, s)
	}
}

func TestP5_1_AckOfEachAndOfNone(t *testing.T) {
	for _, first := range firsts() {
		for _, at := range []uint16{0, 1, 2, 3, 4} {
			s := newSender(t, 8, 5, 3, first)
			fill(t, s, first, 5)
			wantAck(t, s, first-1, api.ErrNone)
			wantAck(t, s, first+5, api.ErrNone) // the next piece's number: it isn't put yet
			wantAck(t, s, first+6, api.ErrNone)
			wantAck(t, s, first+32768, api.ErrNone)
			wantState(t, s, false, from(first, 5)...)
			wantAck(t, s, first+at, api.OK)
			wantAck(t, s, first+at, api.ErrNone)
			left := slices.Delete(from(first, 5), int(at), int(at)+1)
			wantState(t, s, false, left...)
			wantTick(t, s, left...)
		}
	}
}

func TestP5_1_AckInAnyOrder(t *testing.T) {
	for _, first := range firsts() {
		s := newSender(t, 64, 5, 3, first)
		fill(t, s, first, 64)
		left := from(first, 64)
		for k := range 64 {
			// 5 and 64 have no divisor in common: each number comes once, in no order.
			seq := first + uint16(k*5%64)
			wantAck(t, s, seq, api.OK)
			left = slices.DeleteFunc(left, func(n uint16) bool { return n == seq })
			wantState(t, s, false, left...)
		}
	}
}

func TestP5_1_AckToEachNumber(t *testing.T) {
	for _, count := range []int{1, 2, 5, 63, 64} {
		for _, first := range firsts() {
			for k := 0; k <= count; k++ {
				s := newSender(t, 64, 5, 3, first)
				fill(t, s, first, count)
				wantNoAckTo(t, s, first-1, api.ErrNone)
				wantNoAckTo(t, s, first+uint16(count)+1, api.ErrNone)
				wantNoAckTo(t, s, first+32768, api.ErrNone)
				wantState(t, s, false, from(first, count)...)
				wantAckTo(t, s, first+uint16(k), k)
				wantState(t, s, false, from(first+uint16(k), count-k)...)
				wantAckTo(t, s, first+uint16(k), 0)
				if k > 0 {
					wantNoAckTo(t, s, first+uint16(k)-1, api.ErrNone)
				}
				wantTick(t, s, from(first+uint16(k), count-k)...)
			}
		}
	}
}

func TestP5_1_AckToEveryNumberThereIs(t *testing.T) {
	for _, first := range []uint16{0, 65500, 65535} {
		s := newSender(t, 64, 5, 3, first)
		fill(t, s, first, 64)
		for steps := 65; steps < 65536; steps++ {
			wantNoAckTo(t, s, first+uint16(steps), api.ErrNone)
		}
		for steps := 0; steps <= 64; steps++ {
			wantAckTo(t, s, first+uint16(steps), min(steps, 1))
		}
		for steps := 65; steps < 65536+64; steps++ { // nothing is open: the next piece's number alone
			wantNoAckTo(t, s, first+uint16(steps), api.ErrNone)
		}
		wantAckTo(t, s, first+64, 0)
	}
}

func TestP5_1_AckToCountsPiecesNotNumbers(t *testing.T) {
	for _, first := range firsts() {
		for _, c := range []struct {
			to   uint16
			went int
			left []uint16
		}{
			{1, 1, []uint16{2, 5}}, // a number between, that went already
			{2, 1, []uint16{2, 5}},
			{3, 2, []uint16{5}},
			{4, 2, []uint16{5}},
			{5, 2, []uint16{5}},
			{6, 3, nil},
		} {
			s := newSender(t, 6, 5, 3, first)
			fill(t, s, first, 6)
			for _, k := range []uint16{1, 3, 4} {
				wantAck(t, s, first+k, api.OK)
			}
			wantAckTo(t, s, first, 0)
			wantAckTo(t, s, first+c.to, c.went)
			var left []uint16
			for _, k := range c.left {
				left = append(left, first+k)
			}
			wantState(t, s, false, left...)
		}
	}
}

func TestP5_1_AckToFromTheFirstThatIsLeft(t *testing.T) {
	s := newSender(t, 6, 5, 3, 65534)
	fill(t, s, 65534, 4)
	wantAck(t, s, 65535, api.OK)
	wantAckTo(t, s, 65535, 1) // ahead of it only 65534 was left
	wantNoAckTo(t, s, 65534, api.ErrNone)
	wantNoAckTo(t, s, 65535, api.ErrNone) // 0 is the first now
	wantAckTo(t, s, 0, 0)
	wantAck(t, s, 1, api.OK)
	wantAckTo(t, s, 1, 1)
	wantNoAckTo(t, s, 1, api.ErrNone) // nothing is open, so only the next one
	wantAckTo(t, s, 2, 0)
	wantPut(t, s, of(2), 2)
	wantAckTo(t, s, 2, 0)
	wantAckTo(t, s, 3, 1)
}

func TestP5_1_EveryCallBehindDeath(t *testing.T) {
	for _, first := range firsts() {
		s := newSender(t, 2, 2, 1, first)
		fill(t, s, first, 2)
		wantTick(t, s, first, first+1)
		wantQuiet(t, s, 1)
		wantNoPut(t, s, make([]byte, 257), api.ErrLong)
		wantNoPut(t, s, nil, api.ErrFull)
		wantDeadTick(t, s)
		for range 3 {
			wantDeadTick(t, s)
			wantNoPut(t, s, nil, api.ErrDead)
			wantNoPut(t, s, make([]byte, 257), api.ErrDead)
			wantAck(t, s, first, api.ErrDead)
			wantAck(t, s, first+1, api.ErrDead)
			wantAck(t, s, first+9, api.ErrDead)
			wantNoAckTo(t, s, first, api.ErrDead)
			wantNoAckTo(t, s, first+2, api.ErrDead)
			wantNoAckTo(t, s, first+9, api.ErrDead)
			wantState(t, s, true, first, first+1)
		}
	}
}

func TestP5_1_TheErrorThatComesFirst(t *testing.T) {
	long := make([]byte, 257)
	s := newSender(t, 1, 2, 1, 65535)
	wantNoPut(t, s, long, api.ErrLong)
	wantPut(t, s, of(65535), 65535)
	wantNoPut(t, s, long, api.ErrLong) // long, and full
	wantNoPut(t, s, make([]byte, 256), api.ErrFull)
	wantTick(t, s, 65535)
	wantQuiet(t, s, 1)
	wantDeadTick(t, s)
	wantNoPut(t, s, long, api.ErrDead) // dead, long, and full
	wantNoPut(t, s, of(0), api.ErrDead)
	wantState(t, s, true, 65535)
}

func TestP5_1_ARefusedCallChangesNothing(t *testing.T) {
	s := newSender(t, 3, 3, 2, 65535)
	fill(t, s, 65535, 3)
	for _, ticks := range [][]uint16{{65535, 0, 1}, nil, nil, {65535, 0, 1}, nil, nil} {
		wantTick(t, s, ticks...)
		wantNoPut(t, s, make([]byte, 257), api.ErrLong)
		wantNoPut(t, s, []byte{1}, api.ErrFull)
		wantAck(t, s, 2, api.ErrNone)
		wantAck(t, s, 65534, api.ErrNone)
		wantNoAckTo(t, s, 65534, api.ErrNone)
		wantNoAckTo(t, s, 3, api.ErrNone)
		wantAckTo(t, s, 65535, 0)
		wantState(t, s, false, 65535, 0, 1)
	}
	wantDeadTick(t, s)
	wantState(t, s, true, 65535, 0, 1)
}

// call makes a call of the kind with this number, at the ends of what is open.
func (d *double) call(kind int) {
	d.t.Helper()
	first, next := uint16(d.w.first()), uint16(d.w.next)
	switch kind {
	case 0:
		d.put(of(next))
	case 1:
		d.tick()
	case 2:
		d.ack(first)
	case 3:
		d.ack(next - 1)
	case 4:
		d.ackTo(first + 1)
	case 5:
		d.ackTo(next)
	}
}

// TestP5_1_EveryShortListOfCalls makes all lists of six calls for small senders.
func TestP5_1_EveryShortListOfCalls(t *testing.T) {
	const calls, kinds = 6, 6
	lists := 1
	for range calls {
		lists *= kinds
	}
	for _, c := range [][3]int{{1, 1, 1}, {1, 2, 2}, {2, 1, 2}, {2, 2, 1}, {3, 2, 2}} {
		for list := range lists {
			d := newDouble(t, c[0], c[1], c[2], 65535)
			for rest, k := list, 0; k < calls; rest, k = rest/kinds, k+1 {
				d.call(rest % kinds)
			}
		}
	}
}

func TestP5_1_LongListsOfCalls(t *testing.T) {
	for window := 1; window <= 64; window++ {
		for k, first := range firsts() {
			r := rand.New(rand.NewSource(int64(window*100 + k)))
			d := newDouble(t, window, 1+r.Intn(6), 1+r.Intn(20), first)
			for range 300 {
				switch r.Intn(10) {
				case 0, 1, 2:
					d.tick()
				case 3, 4, 5:
					data := make([]byte, r.Intn(4))
					r.Read(data)
					d.put(data)
				case 6:
					d.put(make([]byte, 250+r.Intn(10)))
				case 7:
					d.ackTo(uint16(d.w.first() - 2 + r.Intn(4)))
				case 8:
					d.ackTo(uint16(d.w.next - 2 + r.Intn(4)))
				case 9:
					d.ack(uint16(d.w.first() - 1 + r.Intn(window+2)))
				}
			}
		}
	}
}

func TestP5_2_SentAtTheFirstTickThenEachPause(t *testing.T) {
	for _, pause := range []int{1, 2, 3, 999, 1000} {
		for _, times := range []int{1, 2, 19, 20} {
			for _, ahead := range []int{0, 1, pause} { // ticks that go by ahead of the Put
				s := newSender(t, 1, pause, times, 65535)
				wantQuiet(t, s, ahead)
				wantPut(t, s, of(65535), 65535)
				for range times {
					wantTick(t, s, 65535)
					wantQuiet(t, s, pause-1)
					wantState(t, s, false, 65535)
				}
				wantDeadTick(t, s)
				wantState(t, s, true, 65535)
			}
		}
	}
}

func TestP5_2_AcknowledgedAtAnyTick(t *testing.T) {
	const pause, times = 3, 3
	acks := []func(s *Sender) bool{
		func(s *Sender) bool { return s.Ack(65535) == api.OK },
		func(s *Sender) bool { n, e := s.AckTo(0); return n == 1 && e == api.OK },
	}
	for _, ack := range acks {
		for ticks := 0; ticks < pause*times+1; ticks++ { // the last one: a tick ahead of death
			s := newSender(t, 1, pause, times, 65535)
			wantPut(t, s, of(65535), 65535)
			for k := range ticks {
				if k%pause == 0 {
					wantTick(t, s, 65535)
				} else {
					wantQuiet(t, s, 1)
				}
			}
			if !ack(s) {
				t.Fatalf("behind %d ticks the piece can't be acknowledged", ticks)
			}
			wantState(t, s, false)
			wantQuiet(t, s, 2*pause*times)
			wantPut(t, s, of(0), 0)
			wantTick(t, s, 0)
		}
	}
}

func TestP5_2_EachPieceByItsOwnTicks(t *testing.T) {
	s := newSender(t, 4, 4, 2, 65534)
	wantPut(t, s, of(65534), 65534)
	wantTick(t, s, 65534)
	wantPut(t, s, of(65535), 65535)
	wantTick(t, s, 65535)
	wantQuiet(t, s, 1)
	wantPut(t, s, of(0), 0)
	wantTick(t, s, 0)
	wantPut(t, s, of(1), 1)
	wantTick(t, s, 65534, 1) // one again and one for the first time, in order
	wantTick(t, s, 65535)
	wantQuiet(t, s, 1)
	wantTick(t, s, 0)
	wantAck(t, s, 65534, api.OK) // else the sender would be dead at the next tick
	wantTick(t, s, 1)
	wantAckTo(t, s, 1, 2)
	wantQuiet(t, s, 3)
	wantState(t, s, false, 1)
	wantDeadTick(t, s)
}

func TestP5_2_WhenOneGoesTheOthersGoOn(t *testing.T) {
	for _, first := range firsts() {
		s := newSender(t, 64, 3, 3, first)
		fill(t, s, first, 3)
		wantTick(t, s, first, first+1, first+2)
		wantQuiet(t, s, 1)
		wantAck(t, s, first+1, api.OK)
		wantPut(t, s, of(first+3), first+3)
		wantTick(t, s, first+3)
		wantTick(t, s, first, first+2)
		wantAckTo(t, s, first+1, 1)
		wantQuiet(t, s, 1)
		wantTick(t, s, first+3)
		wantTick(t, s, first+2)
		wantQuiet(t, s, 1)
		wantTick(t, s, first+3)
		wantDeadTick(t, s) // first+2 was sent three times
		wantState(t, s, true, first+2, first+3)
	}
}

// TestP5_2_SeveralDueAndOneTooOften: the one that was sent too often was put first, so the others were sent as often at most.
func TestP5_2_SeveralDueAndOneTooOften(t *testing.T) {
	s := newSender(t, 3, 2, 2, 0)
	wantPut(t, s, of(0), 0)
	wantTick(t, s, 0)
	wantQuiet(t, s, 1)
	wantPut(t, s, of(1), 1)
	wantTick(t, s, 0, 1)
	wantQuiet(t, s, 1)
	wantPut(t, s, of(2), 2)
	wantDeadTick(t, s) // 0 is due for a third time, 1 for a second, 2 for its first
	wantState(t, s, true, 0, 1, 2)

	// With 0 acknowledged the sender lives till 1 is due for a third time.
	s = newSender(t, 3, 2, 2, 0)
	wantPut(t, s, of(0), 0)
	wantTick(t, s, 0)
	wantQuiet(t, s, 1)
	wantPut(t, s, of(1), 1)
	wantTick(t, s, 0, 1)
	wantQuiet(t, s, 1)
	wantPut(t, s, of(2), 2)
	wantAck(t, s, 0, api.OK)
	wantTick(t, s, 1, 2)
	wantQuiet(t, s, 1)
	wantDeadTick(t, s)
	wantState(t, s, true, 1, 2)

	// All of them at once.
	s = newSender(t, 64, 1, 1, 65500)
	fill(t, s, 65500, 64)
	wantTick(t, s, from(65500, 64)...)
	wantDeadTick(t, s)
	wantState(t, s, true, from(65500, 64)...)
}

// TestP5_2_WhateverIsLost looks at when pieces are sent, and at nothing else.
func TestP5_2_WhateverIsLost(t *testing.T) {
	const times = 20
	for _, pause := range []int{1, 2, 5, 17} {
		r := rand.New(rand.NewSource(int64(pause)))
		s := newSender(t, 64, pause, times, 65000)
		putAt, lastAt, sent := map[uint16]int{}, map[uint16]int{}, map[uint16]int{}
		total := 0
		for now := 1; now <= 20000; now++ {
			if r.Intn(3) > 0 {
				if seq, e := s.Put(of(uint16(65000 + total))); e == api.OK {
					total++
					putAt[seq], sent[seq] = now, 0
				}
			}
			outs, e := s.Tick()
			if e != api.OK {
				t.Fatalf("pause %d: Tick %d: %v", pause, now, e)
			}
			for _, o := range outs {
				want := putAt[o.Seq]
				if sent[o.Seq] > 0 {
					want = lastAt[o.Seq] + pause
				}
				if now != want || !bytes.Equal(o.Data, of(o.Seq)) {
					t.Fatalf("pause %d: %d is sent at %d, want %d: %v", pause, o.Seq, now, want, o.Data)
				}
				lastAt[o.Seq] = now
				sent[o.Seq]++
			}
			for _, seq := range s.Open() {
				if sent[seq] == 0 || now-lastAt[seq] >= pause {
					t.Fatalf("pause %d: %d isn't sent at %d", pause, seq, now)
				}
				if sent[seq] == times || r.Intn(2*pause) == 0 { // it came, and so did the word of it
					if e := s.Ack(seq); e != api.OK {
						t.Fatalf("Ack(%d): %v", seq, e)
					}
				}
			}
		}
		if total < 5000 {
			t.Errorf("pause %d: only %d were put", pause, total)
		}
	}
}

func TestP5_3_PutKeepsNothingOfItsData(t *testing.T) {
	for _, long := range []int{0, 1, 8, 255, 256} {
		s := newSender(t, 3, 1, 3, 65534)
		room := make([]byte, long+4)
		for n := range 3 { // the same memory handed in three times
			for k := range room {
				room[k] = byte(n)
			}
			was := slices.Clone(room)
			wantPut(t, s, room[:long], 65534+uint16(n))
			if !bytes.Equal(room, was) {
				t.Fatalf("Put changed its data or the room behind: %v", room)
			}
		}
		for k := range room {
			room[k] = 99
		}
		var want []Out
		for n := range 3 {
			want = append(want, Out{65534 + uint16(n), bytes.Repeat([]byte{byte(n)}, long)})
		}
		for range 3 {
			if got, e := s.Tick(); e != api.OK || !sameOuts(got, want) {
				t.Fatalf("Tick: %v, %v, want %v", got, e, want)
			}
			if !bytes.Equal(room, bytes.Repeat([]byte{99}, long+4)) {
				t.Fatalf("Tick changed what was handed in: %v", room)
			}
		}
	}
}

func TestP5_3_ARefusedPutLeavesItsData(t *testing.T) {
	s := newSender(t, 1, 1, 1, 0)
	refused := func(long int, want api.Errno) {
		t.Helper()
		room := bytes.Repeat([]byte{5}, long+4)
		wantNoPut(t, s, room[:long], want)
		if !bytes.Equal(room, bytes.Repeat([]byte{5}, long+4)) {
			t.Errorf("Put changed its data or the room behind")
		}
	}
	refused(257, api.ErrLong)
	wantPut(t, s, of(0), 0)
	refused(3, api.ErrFull)
	wantTick(t, s, 0)
	wantDeadTick(t, s)
	refused(3, api.ErrDead)
}

func TestP5_3_WhatIsSentIsNewMemory(t *testing.T) {
	for _, long := range []int{0, 1, 3, 8, 255, 256} {
		s := newSender(t, 4, 1, 20, 65534)
		room := bytes.Repeat([]byte{1}, long+4)
		var want []Out
		for n := range 4 {
			wantPut(t, s, room[:long], 65534+uint16(n))
			want = append(want, Out{65534 + uint16(n), bytes.Repeat([]byte{1}, long)})
		}
		before, _ := s.Tick()
		for range 18 {
			got, e := s.Tick()
			if e != api.OK || !sameOuts(got, want) {
				t.Fatalf("Tick: %v, %v", got, e)
			}
			for k := range got { // one list of the answer is spoilt, the others stay
				spoilt := got[k].Data[:cap(got[k].Data)]
				for at := range spoilt {
					spoilt[at] = 200
				}
				if !sameOuts(got[k+1:], want[k+1:]) {
					t.Fatalf("two lists of one answer share memory: %v", got)
				}
			}
			got = got[:cap(got)]
			for k := range got {
				got[k] = Out{7, nil}
			}
			if !sameOuts(before, want) {
				t.Fatalf("two answers share memory: %v", before)
			}
			if !bytes.Equal(room, bytes.Repeat([]byte{1}, long+4)) {
				t.Fatalf("an answer shares memory with what was handed in: %v", room)
			}
			wantState(t, s, false, 65534, 65535, 0, 1)
		}
	}
}

func TestP5_3_OpenIsNewMemory(t *testing.T) {
	s := newSender(t, 5, 2, 2, 65534)
	fill(t, s, 65534, 3)
	one, other := s.Open(), s.Open()
	one = one[:cap(one)]
	for k := range one {
		one[k] = 9
	}
	if !slices.Equal(other, []uint16{65534, 65535, 0}) {
		t.Fatalf("two answers share memory: %v", other)
	}
	wantState(t, s, false, 65534, 65535, 0)
	wantTick(t, s, 65534, 65535, 0)
	wantAckTo(t, s, 0, 2)
	wantPut(t, s, of(1), 1)
	if !slices.Equal(other, []uint16{65534, 65535, 0}) {
		t.Fatalf("an answer changed later: %v", other)
	}
	wantState(t, s, false, 0, 1)
}

func TestP5_3_AnswersStayAsTheyWere(t *testing.T) {
	s := newSender(t, 2, 1, 3, 0)
	fill(t, s, 0, 2)
	first, _ := s.Tick()
	wantAckTo(t, s, 2, 2)
	fill(t, s, 2, 2)
	wantTick(t, s, 2, 3)
	wantTick(t, s, 2, 3)
	if !sameOuts(first, []Out{{0, of(0)}, {1, of(1)}}) {
		t.Fatalf("an answer changed later: %v", first)
	}
}

func TestP5_3_TwoSendersShareNothing(t *testing.T) {
	a, b := newSender(t, 2, 1, 1, 0), newSender(t, 2, 1, 1, 0)
	wantPut(t, a, of(0), 0)
	wantState(t, b, false)
	wantTick(t, a, 0)
	wantQuiet(t, b, 3)
	wantDeadTick(t, a)
	wantState(t, b, false)
	wantPut(t, b, of(0), 0)
	wantPut(t, b, of(1), 1)
	wantTick(t, b, 0, 1)
	wantState(t, a, true, 0)
}
