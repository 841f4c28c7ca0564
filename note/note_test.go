package note

import (
	"bytes"
	"math"
	"math/rand"
	"slices"
	"testing"
	"unsafe"

	"stillage/api"
)

// isNoteByWords follows the chapter's words, Kind by Kind, apart from the program.
func isNoteByWords(n api.Note) bool {
	fits := func(v int) bool { return 0 <= v && v <= 2147483647 }
	if !fits(n.A) || !fits(n.B) || !fits(n.C) {
		return false
	}
	switch n.Kind {
	case 1, 5:
		return n.C == 0
	case 2, 4:
		return true
	case 3, 6, 7:
		return n.B == 0 && n.C == 0
	case 8:
		return (n.B == 0 || n.B == 1) && n.C == 0
	}
	return false
}

// usedByWords are the numbers that a note's Kind uses.
func usedByWords(n api.Note) []int {
	switch n.Kind {
	case 1, 5, 8:
		return []int{n.A, n.B}
	case 2, 4:
		return []int{n.A, n.B, n.C}
	case 3, 6, 7:
		return []int{n.A}
	}
	return nil
}

func digitsByWords(v int) []byte {
	if v < 128 {
		return []byte{byte(v)}
	}
	return append([]byte{byte(128 + v%128)}, digitsByWords(v/128)...)
}

func sumByWords(b []byte) (byte, byte) {
	c := uint32(0xFFFF)
	for _, v := range b {
		c ^= uint32(v) << 8
		for range 8 {
			c <<= 1
			if c >= 0x10000 {
				c = c&0xFFFF ^ 0x1021
			}
		}
	}
	return byte(c >> 8), byte(c)
}

// summed puts the sum behind bytes.
func summed(b ...byte) []byte {
	high, low := sumByWords(b)
	return append(slices.Clone(b), high, low)
}

// framed puts ahead of a body how many bytes it has, and the sum behind it.
func framed(body ...byte) []byte {
	return summed(append([]byte{byte(len(body))}, body...)...)
}

// bytesByWords are a note's bytes; those of what is none are made alike.
func bytesByWords(n api.Note) []byte {
	body := []byte{byte(n.Kind)}
	for _, v := range usedByWords(n) {
		body = append(body, digitsByWords(v)...)
	}
	return framed(body...)
}

func streamByWords(l []api.Note) []byte {
	var b []byte
	for _, n := range l {
		b = append(b, bytesByWords(n)...)
	}
	return b
}

// decodeByWords guesses which note it would be, with no care for wrong bytes, and holds that note's bytes against b.
func decodeByWords(b []byte) (api.Note, int, api.Errno) {
	if len(b) < 5 {
		return api.Note{}, 0, api.ErrNote
	}
	var v [3]int
	at, digit := 0, 1
	for i := 2; i < len(b) && i < 19 && at < 3; i++ {
		v[at] += int(b[i]&127) * digit
		digit *= 128
		if b[i] < 128 {
			at, digit = at+1, 1
		}
	}
	kind := int(b[1])
	for _, n := range []api.Note{{Kind: kind, A: v[0]}, {Kind: kind, A: v[0], B: v[1]}, {Kind: kind, A: v[0], B: v[1], C: v[2]}} {
		if w := bytesByWords(n); isNoteByWords(n) && bytes.HasPrefix(b, w) {
			return n, len(w), api.OK
		}
	}
	return api.Note{}, 0, api.ErrNote
}

func readByWords(b []byte) ([]api.Note, int) {
	var l []api.Note
	size := 0
	for {
		n, k, e := decodeByWords(b[size:])
		if e != api.OK {
			return l, size
		}
		l, size = append(l, n), size+k
	}
}

func wantDecode(t *testing.T, b []byte, n api.Note, size int, errno api.Errno) {
	t.Helper()
	if got, k, e := Decode(b); got != n || k != size || e != errno {
		t.Fatalf("Decode(% X): %v, %d, %d, want %v, %d, %d", b, got, k, e, n, size, errno)
	}
}

func wantNone(t *testing.T, b []byte) {
	t.Helper()
	wantDecode(t, b, api.Note{}, 0, api.ErrNote)
}

func wantByWords(t *testing.T, b []byte) bool {
	t.Helper()
	n, size, e := decodeByWords(b)
	wantDecode(t, b, n, size, e)
	return e == api.OK
}

func wantRead(t *testing.T, b []byte, l []api.Note, size int) {
	t.Helper()
	if got, k := Read(b); !slices.Equal(got, l) || k != size {
		t.Fatalf("Read(% X): %v, %d, want %v, %d", b, got, k, l, size)
	}
}

// wantRefused holds that n is no note to any call that is handed one.
func wantRefused(t *testing.T, n api.Note) {
	t.Helper()
	if e := Check(n); e != api.ErrNote {
		t.Fatalf("Check(%v): %d", n, e)
	}
	if b, e := Encode(n); len(b) != 0 || e != api.ErrNote {
		t.Fatalf("Encode(%v): % X, %d", n, b, e)
	}
	if b, e := Write([]api.Note{n}); len(b) != 0 || e != api.ErrNote {
		t.Fatalf("Write(%v): % X, %d", n, b, e)
	}
}

// wantTaken holds that n is a note with these bytes, to every call.
func wantTaken(t *testing.T, n api.Note, b []byte) {
	t.Helper()
	if e := Check(n); e != api.OK {
		t.Fatalf("Check(%v): %d", n, e)
	}
	if got, e := Encode(n); !bytes.Equal(got, b) || e != api.OK {
		t.Fatalf("Encode(%v): % X, %d, want % X", n, got, e, b)
	}
	if got, e := Write([]api.Note{n}); !bytes.Equal(got, b) || e != api.OK {
		t.Fatalf("Write(%v): % X, %d, want % X", n, got, e, b)
	}
	wantDecode(t, b, n, len(b), api.OK)
	wantRead(t, b, []api.Note{n}, len(b))
}

func edgeNumbers() []int {
	return []int{0, 1, 127, 128, 16383, 16384, 2097151, 2097152, 268435455, 268435456, 1<<31 - 1}
}

func wrongNumbers() []int {
	return []int{-1, -2, -127, -128, -1 << 31, -1 << 32, math.MinInt, math.MinInt + 1, 1 << 31, 1<<31 + 1, 1<<32 - 1, 1 << 32, 1<<32 + 1, 1 << 35, 1 << 62, math.MaxInt}
}

func kinds() []int { return []int{1, 2, 3, 4, 5, 6, 7, 8} }

func wrongKinds() []int {
	return []int{0, 9, 10, -1, -8, 127, 128, 129, 255, 256, 257, 264, 1<<32 + 1, -255, math.MinInt, math.MaxInt}
}

// notes are those of each Kind with the edges' numbers, each in every place that it uses.
func notes() []api.Note {
	var l []api.Note
	for _, kind := range kinds() {
		for _, a := range edgeNumbers() {
			for _, b := range edgeNumbers() {
				for _, c := range edgeNumbers() {
					if n := (api.Note{Kind: kind, A: a, B: b, C: c}); isNoteByWords(n) {
						l = append(l, n)
					}
				}
			}
		}
	}
	return l
}

// someNotes are fewer, of each Kind and of all sizes.
func someNotes() []api.Note {
	return []api.Note{
		{Kind: api.JPut}, {Kind: api.JPut, A: 1, B: 127}, {Kind: api.JPut, A: 128, B: 1<<31 - 1},
		{Kind: api.JOrder, A: 7, B: 2, C: 1}, {Kind: api.JOrder, A: 16384, B: 0, C: 128}, {Kind: api.JOrder, A: 1<<31 - 1, B: 1<<31 - 1, C: 1<<31 - 1},
		{Kind: api.JCancel}, {Kind: api.JCancel, A: 300}, {Kind: api.JCancel, A: 268435456},
		{Kind: api.JSend, A: 127, B: 128, C: 16384}, {Kind: api.JSend, A: 3, B: 5, C: 65535}, {Kind: api.JSend},
		{Kind: api.JMoved, A: 16383, B: 1}, {Kind: api.JMoved, A: 0, B: 2097152},
		{Kind: api.JServed, A: 2097151}, {Kind: api.JServed, A: 1},
		{Kind: api.JDropped, A: 200}, {Kind: api.JDropped, A: 0},
		{Kind: api.JMask, A: 1}, {Kind: api.JMask, A: 1<<31 - 1, B: 1}, {Kind: api.JMask, A: 0, B: 1},
	}
}

func chanceNote(rnd *rand.Rand) api.Note {
	v := func() int { return rnd.Intn(1 << (1 + rnd.Intn(31))) }
	for {
		n := api.Note{Kind: 1 + rnd.Intn(8), A: v(), B: v(), C: v()}
		switch len(usedByWords(n)) {
		case 1:
			n.B, n.C = 0, 0
		case 2:
			n.C = 0
		}
		if n.Kind == 8 {
			n.B %= 2
		}
		if isNoteByWords(n) {
			return n
		}
	}
}

func chanceNotes(rnd *rand.Rand, many int) []api.Note {
	l := make([]api.Note, many)
	for i := range l {
		l[i] = chanceNote(rnd)
	}
	return l
}

// TestP18_1_Known has bytes that were worked out elsewhere, sums too.
func TestP18_1_Known(t *testing.T) {
	top := 1<<31 - 1
	for _, k := range []struct {
		n api.Note
		b []byte
	}{
		{api.Note{Kind: api.JCancel, A: 300}, []byte{0x03, 0x03, 0xAC, 0x02, 0x3E, 0x1D}},
		{api.Note{Kind: api.JPut, A: 1}, []byte{0x03, 0x01, 0x01, 0x00, 0x1B, 0x1D}},
		{api.Note{Kind: api.JPut, A: 30, B: 39}, []byte{0x03, 0x01, 0x1E, 0x27, 0x5C, 0xD5}},
		{api.Note{Kind: api.JOrder, A: 7, B: 2, C: 1}, []byte{0x04, 0x02, 0x07, 0x02, 0x01, 0x86, 0xB1}},
		{api.Note{Kind: api.JOrder, A: top, B: top, C: top}, []byte{0x10, 0x02, 0xFF, 0xFF, 0xFF, 0xFF, 0x07, 0xFF, 0xFF, 0xFF, 0xFF, 0x07, 0xFF, 0xFF, 0xFF, 0xFF, 0x07, 0x63, 0xC7}},
		{api.Note{Kind: api.JCancel}, []byte{0x02, 0x03, 0x00, 0xF7, 0xAF}},
		{api.Note{Kind: api.JSend, A: 127, B: 128, C: 16384}, []byte{0x07, 0x04, 0x7F, 0x80, 0x01, 0x80, 0x80, 0x01, 0xD3, 0xF8}},
		{api.Note{Kind: api.JMoved, A: 200, B: 16383}, []byte{0x05, 0x05, 0xC8, 0x01, 0xFF, 0x7F, 0xE3, 0x96}},
		{api.Note{Kind: api.JServed, A: 2097152}, []byte{0x05, 0x06, 0x80, 0x80, 0x80, 0x01, 0x6D, 0x4F}},
		{api.Note{Kind: api.JDropped, A: 268435456}, []byte{0x06, 0x07, 0x80, 0x80, 0x80, 0x80, 0x01, 0x57, 0xA1}},
		{api.Note{Kind: api.JMask, A: 1}, []byte{0x03, 0x08, 0x01, 0x00, 0x85, 0x8C}},
		{api.Note{Kind: api.JMask, A: top, B: 1}, []byte{0x07, 0x08, 0xFF, 0xFF, 0xFF, 0xFF, 0x07, 0x01, 0x66, 0xED}},
	} {
		wantTaken(t, k.n, k.b)
		if w := bytesByWords(k.n); !bytes.Equal(w, k.b) {
			t.Errorf("%v: by words % X", k.n, w)
		}
	}
	wantRefused(t, api.Note{Kind: api.JMask, A: 1, B: 2})
}

// TestP18_1_NumbersBytes has each edge's bytes written out.
func TestP18_1_NumbersBytes(t *testing.T) {
	for _, k := range []struct {
		v int
		b []byte
	}{
		{0, []byte{0}}, {1, []byte{1}}, {127, []byte{0x7F}},
		{128, []byte{0x80, 1}}, {300, []byte{0xAC, 2}}, {16383, []byte{0xFF, 0x7F}},
		{16384, []byte{0x80, 0x80, 1}}, {2097151, []byte{0xFF, 0xFF, 0x7F}},
		{2097152, []byte{0x80, 0x80, 0x80, 1}}, {268435455, []byte{0xFF, 0xFF, 0xFF, 0x7F}},
		{268435456, []byte{0x80, 0x80, 0x80, 0x80, 1}}, {1<<31 - 1, []byte{0xFF, 0xFF, 0xFF, 0xFF, 7}},
	} {
		for _, kind := range []byte{3, 6, 7} {
			wantTaken(t, api.Note{Kind: int(kind), A: k.v}, framed(append([]byte{kind}, k.b...)...))
		}
		for _, kind := range []byte{1, 5} {
			wantTaken(t, api.Note{Kind: int(kind), A: k.v, B: 9}, framed(slices.Concat([]byte{kind}, k.b, []byte{9})...))
			wantTaken(t, api.Note{Kind: int(kind), A: 9, B: k.v}, framed(append([]byte{kind, 9}, k.b...)...))
		}
		for _, kind := range []byte{2, 4} {
			wantTaken(t, api.Note{Kind: int(kind), A: k.v, B: 9, C: 8}, framed(slices.Concat([]byte{kind}, k.b, []byte{9, 8})...))
			wantTaken(t, api.Note{Kind: int(kind), A: 9, B: k.v, C: 8}, framed(slices.Concat([]byte{kind, 9}, k.b, []byte{8})...))
			wantTaken(t, api.Note{Kind: int(kind), A: 9, B: 8, C: k.v}, framed(append([]byte{kind, 9, 8}, k.b...)...))
		}
		for _, down := range []byte{0, 1} {
			wantTaken(t, api.Note{Kind: 8, A: k.v, B: int(down)}, framed(slices.Concat([]byte{8}, k.b, []byte{down})...))
		}
	}
}

func TestP18_1_EveryKindAndEdge(t *testing.T) {
	shortest, longest := math.MaxInt, 0
	for _, n := range notes() {
		b := bytesByWords(n)
		wantTaken(t, n, b)
		shortest, longest = min(shortest, len(b)), max(longest, len(b))
	}
	if shortest != 5 || longest != 19 {
		t.Errorf("notes of %d to %d bytes", shortest, longest)
	}
}

func TestP18_1_SmallNumbersOneByOne(t *testing.T) {
	for v := range 40000 {
		for _, n := range []api.Note{{Kind: api.JServed, A: v}, {Kind: api.JSend, A: v, B: 40000 - v, C: v}} {
			wantTaken(t, n, bytesByWords(n))
		}
	}
}

func TestP18_1_ChanceNotes(t *testing.T) {
	rnd := rand.New(rand.NewSource(1))
	for range 30000 {
		n := chanceNote(rnd)
		wantTaken(t, n, bytesByWords(n))
	}
}

// TestP18_1_AnyNumbers has every Kind, and what is none, with numbers of any size in every place.
func TestP18_1_AnyNumbers(t *testing.T) {
	all := slices.Concat([]int{0, 1, 2, 127, 128, 1<<31 - 1}, wrongNumbers())
	for _, kind := range slices.Concat(kinds(), wrongKinds()) {
		for _, a := range all {
			for _, b := range all {
				for _, c := range all {
					n := api.Note{Kind: kind, A: a, B: b, C: c}
					if isNoteByWords(n) {
						wantTaken(t, n, bytesByWords(n))
					} else {
						wantRefused(t, n)
					}
				}
			}
		}
	}
}

func TestP18_1_WrongKinds(t *testing.T) {
	for _, kind := range wrongKinds() {
		for _, n := range []api.Note{{}, {A: 1}, {A: 1, B: 1}, {A: 1, B: 1, C: 1}} {
			n.Kind = kind
			wantRefused(t, n)
		}
	}
}

func TestP18_1_WrongNumbers(t *testing.T) {
	for _, kind := range kinds() {
		for _, v := range wrongNumbers() {
			wantRefused(t, api.Note{Kind: kind, A: v})
			wantRefused(t, api.Note{Kind: kind, B: v})
			wantRefused(t, api.Note{Kind: kind, C: v})
		}
	}
}

func TestP18_1_PlacesThatAreNotUsed(t *testing.T) {
	for _, v := range []int{1, 127, 128, 1<<31 - 1} {
		for _, kind := range []int{api.JCancel, api.JServed, api.JDropped} {
			wantRefused(t, api.Note{Kind: kind, A: 5, B: v})
			wantRefused(t, api.Note{Kind: kind, A: 5, C: v})
		}
		for _, kind := range []int{api.JPut, api.JMoved, api.JMask} {
			wantRefused(t, api.Note{Kind: kind, A: 5, B: 1, C: v})
			wantRefused(t, api.Note{Kind: kind, C: v})
		}
	}
}

func TestP18_1_MaskIsOneOrZero(t *testing.T) {
	for _, a := range []int{0, 1, 200, 1<<31 - 1} {
		for b := -3; b < 300; b++ {
			n := api.Note{Kind: api.JMask, A: a, B: b}
			if b == 0 || b == 1 {
				wantTaken(t, n, bytesByWords(n))
				continue
			}
			wantRefused(t, n)
			if b > 1 {
				wantNone(t, bytesByWords(n))
			}
		}
	}
	wantRefused(t, api.Note{Kind: api.JMask, A: 1, B: 1<<31 - 1})
	wantNone(t, bytesByWords(api.Note{Kind: api.JMask, A: 1, B: 1<<31 - 1}))
}

func TestP18_1_NothingAtAll(t *testing.T) {
	for _, b := range [][]byte{nil, {}, make([]byte, 0, 9)} {
		wantNone(t, b)
		wantRead(t, b, nil, 0)
	}
	for _, l := range [][]api.Note{nil, {}, make([]api.Note, 0, 9)} {
		if b, e := Write(l); len(b) != 0 || e != api.OK {
			t.Errorf("Write of none: % X, %d", b, e)
		}
	}
}

func TestP18_1_OtherBytesBehind(t *testing.T) {
	for _, n := range someNotes() {
		b := bytesByWords(n)
		for v := range 256 {
			wantDecode(t, append(slices.Clone(b), byte(v)), n, len(b), api.OK)
		}
		for _, more := range [][]byte{{0, 0, 0}, b, b[:len(b)-1], bytes.Repeat([]byte{0xFF}, 1000), bytesByWords(api.Note{Kind: 9})} {
			wantDecode(t, slices.Concat(b, more), n, len(b), api.OK)
		}
	}
}

// TestP18_1_DecodeCut also has other bytes in the place of those that were cut off.
func TestP18_1_DecodeCut(t *testing.T) {
	for _, n := range notes() {
		b := bytesByWords(n)
		for at := range b {
			wantNone(t, b[:at])
			wantNone(t, b[:at:at])
		}
	}
	for _, n := range someNotes() {
		b := bytesByWords(n)
		for at := 1; at < len(b); at++ {
			wantByWords(t, slices.Concat(b[:at], b))
			wantByWords(t, slices.Concat(b[:at], make([]byte, 300)))
			wantByWords(t, slices.Concat(b[:at], bytes.Repeat([]byte{0xFF}, 300)))
			wantByWords(t, b[at:])
		}
	}
}

// TestP18_1_FirstByteSaysOther puts in each other number of bytes that follow: with the sum where it was, where it would
// be then, and with bytes enough behind.
func TestP18_1_FirstByteSaysOther(t *testing.T) {
	for _, n := range someNotes() {
		good := bytesByWords(n)
		for first := range 256 {
			if byte(first) == good[0] {
				continue
			}
			b := slices.Clone(good)
			b[0] = byte(first)
			wantNone(t, b)
			wantNone(t, append(slices.Clone(b), make([]byte, 300)...))
			wantNone(t, summed(b[:len(b)-2]...))
			wantNone(t, append(summed(b[:len(b)-2]...), make([]byte, 300)...))
			long := append(slices.Clone(b[:len(b)-2]), make([]byte, 300)...)
			wantNone(t, summed(long[:1+first]...))
			wantNone(t, append(summed(long[:1+first]...), 1, 2, 3))
			long = append(slices.Clone(b), good...)
			if 1+first <= len(long) {
				wantNone(t, summed(long[:1+first]...))
			}
		}
	}
}

// TestP18_1_NumbersCutOrLeftOver has bodies with a true first byte and a true sum.
func TestP18_1_NumbersCutOrLeftOver(t *testing.T) {
	for _, n := range notes() {
		b := bytesByWords(n)
		body := b[1 : len(b)-2]
		for at := range body {
			wantNone(t, framed(body[:at]...))
		}
		for _, v := range []byte{0, 1, 2, 127, 128, 129, 255} {
			wantNone(t, framed(append(slices.Clone(body), v)...))
			wantNone(t, framed(append(slices.Clone(body), v, 0)...))
			wantNone(t, framed(append(slices.Clone(body), 128, v)...))
		}
	}
	wantNone(t, framed())
	wantNone(t, append(framed(), 1, 2, 3))
}

func TestP18_1_MoreBytesThanNeeded(t *testing.T) {
	wrong := [][]byte{
		{0x80, 0}, {0x81, 0}, {0xFF, 0}, {0x80, 0x80, 0}, {0x81, 0x80, 0}, {0xFF, 0xFF, 0}, {0x80, 0x81, 0},
		{0x80, 0x80, 0x80, 0}, {0xFF, 0xFF, 0xFF, 0}, {0xFF, 0xFF, 0xFF, 0xFF, 0}, {0x80, 0x80, 0x80, 0x80, 0},
		{0xFF, 0xFF, 0xFF, 0xFF, 0x87, 0}, {0x80, 0x80, 0x80, 0x80, 0x80, 0}, {0x81, 0x80, 0x80, 0x80, 0x80, 0},
		{0x80, 0x80, 0x80, 0x80, 0x80, 0x80, 0x80, 0x80, 0x80, 0}, {0x81, 0x80, 0x80, 0x80, 0x80, 0x80, 0x80, 0x80, 0x80, 0x80, 0},
	}
	wantWrongNumbers(t, wrong)
}

// TestP18_1_TooGreat has numbers from 2^31 on, those among them that would be small again in 32 or in 64 bits.
func TestP18_1_TooGreat(t *testing.T) {
	var wrong [][]byte
	for _, v := range []int{1 << 31, 1<<31 + 1, 1<<32 - 1, 1 << 32, 1<<32 + 1, 1<<34 - 1, 1<<35 - 1, 1 << 35, 1 << 42, 1 << 49, 1 << 56, 1 << 62, math.MaxInt} {
		wrong = append(wrong, digitsByWords(v))
	}
	for last := 8; last < 128; last++ {
		wrong = append(wrong, []byte{0x80, 0x80, 0x80, 0x80, byte(last)}, []byte{0xFF, 0xFF, 0xFF, 0xFF, byte(last)})
	}
	for zeros := 4; zeros < 90; zeros++ {
		for _, last := range []byte{1, 2, 4, 8, 16, 32, 64, 126, 127} {
			wrong = append(wrong, append(bytes.Repeat([]byte{0x80}, zeros+1), last))
			wrong = append(wrong, slices.Concat([]byte{0x85}, bytes.Repeat([]byte{0x80}, zeros), []byte{last}))
		}
	}
	wantWrongNumbers(t, wrong)
}

func TestP18_1_NoLastByte(t *testing.T) {
	var wrong [][]byte
	for size := 1; size < 90; size++ {
		wrong = append(wrong, bytes.Repeat([]byte{0x80}, size), bytes.Repeat([]byte{0xFF}, size), bytes.Repeat([]byte{0x81}, size))
	}
	for _, kind := range kinds() {
		for _, number := range wrong {
			for _, ahead := range [][]byte{{byte(kind)}, {byte(kind), 1}, {byte(kind), 1, 1}} {
				wantNone(t, framed(append(ahead, number...)...))
				wantNone(t, append(framed(append(ahead, number...)...), 1, 1, 1))
			}
		}
	}
}

// wantWrongNumbers puts bytes that are no number's into every place that a Kind uses.
func wantWrongNumbers(t *testing.T, wrong [][]byte) {
	t.Helper()
	for _, kind := range kinds() {
		places := len(usedByWords(api.Note{Kind: kind}))
		for _, number := range wrong {
			for place := range places {
				body := []byte{byte(kind)}
				for i := range places {
					if i == place {
						body = append(body, number...)
					} else {
						body = append(body, 1)
					}
				}
				wantNone(t, framed(body...))
				wantNone(t, append(framed(body...), 1, 0, 0))
			}
		}
	}
}

func TestP18_1_WrongKindsWithTrueSums(t *testing.T) {
	for kind := range 256 {
		for _, rest := range [][]byte{{}, {0}, {1}, {1, 1}, {1, 1, 1}, {1, 1, 1, 1}, {0xAC, 2}} {
			b := framed(append([]byte{byte(kind)}, rest...)...)
			if kind < 1 || kind > 8 {
				wantNone(t, b)
				wantRead(t, b, nil, 0)
			} else {
				wantByWords(t, b)
			}
		}
	}
}

// TestP18_1_EveryShortBody has every body of one and of two bytes, and of three with the Kinds and some that are none.
func TestP18_1_EveryShortBody(t *testing.T) {
	good := 0
	count := func(b []byte) {
		if wantByWords(t, b) {
			good++
		}
	}
	for kind := range 256 {
		count(framed(byte(kind)))
		for a := range 256 {
			count(framed(byte(kind), byte(a)))
		}
	}
	for _, kind := range []byte{0, 1, 2, 3, 4, 5, 6, 7, 8, 9, 129, 131, 255} {
		for pair := range 65536 {
			count(framed(kind, byte(pair), byte(pair>>8)))
		}
	}
	// Three Kinds with one number: of one byte, and of two. Two with two numbers of one byte each; and the mask.
	if want := 3*128 + 3*(16384-128) + 2*128*128 + 128*2; good != want {
		t.Errorf("%d bodies are notes, want %d", good, want)
	}
}

// TestP18_1_EveryBodyOfEdgeBytes goes through all rows of bytes at which a number's bytes change their sense.
func TestP18_1_EveryBodyOfEdgeBytes(t *testing.T) {
	good := 0
	var through func(body []byte, from []byte, left int)
	through = func(body []byte, from []byte, left int) {
		if wantByWords(t, framed(body...)) {
			good++
		}
		if left == 0 {
			return
		}
		for _, v := range from {
			through(append(slices.Clip(body), v), from, left-1)
		}
	}
	through([]byte{api.JCancel}, []byte{0, 1, 7, 8, 127, 128, 255}, 6)
	for _, kind := range []byte{api.JPut, api.JOrder, api.JSend, api.JMask} {
		through([]byte{kind}, []byte{0, 1, 128, 255}, 7)
	}
	// Of JCancel's numbers with 1 to 5 bytes there are 5, 8, 16, 32, 32 (a fifth byte is 1 or 7). Of the others' numbers there
	// are 2, 2, 4, 8, 16: that makes 320 pairs of at most 7 bytes, 832 threes, and twice 32 masks.
	if want := 93 + 320 + 2*832 + 64; good != want {
		t.Errorf("%d bodies are notes, want %d", good, want)
	}
}

func TestP18_1_OneBitTurned(t *testing.T) {
	for _, n := range notes() {
		b := bytesByWords(n)
		for at := range 8 * len(b) {
			b[at/8] ^= 0x80 >> (at % 8)
			wantNone(t, b)
			b[at/8] ^= 0x80 >> (at % 8)
		}
	}
}

func TestP18_1_SumTurnedRound(t *testing.T) {
	for _, n := range notes() {
		b := bytesByWords(n)
		high, low := b[len(b)-2], b[len(b)-1]
		if high == low {
			continue
		}
		b[len(b)-2], b[len(b)-1] = low, high
		wantNone(t, b)
	}
}

func TestP18_1_EverySum(t *testing.T) {
	for _, n := range []api.Note{{Kind: api.JPut}, {Kind: api.JCancel, A: 300}, {Kind: api.JMask, A: 1<<31 - 1, B: 1}} {
		good := bytesByWords(n)
		size := len(good)
		b := slices.Clone(good)
		for sum := range 65536 {
			b[size-2], b[size-1] = byte(sum>>8), byte(sum)
			if bytes.Equal(b, good) {
				wantDecode(t, b, n, size, api.OK)
			} else {
				wantNone(t, b)
			}
		}
	}
}

// TestP18_1_TheSumIsOfAllAhead holds that sums of fewer bytes, or of others, aren't taken.
func TestP18_1_TheSumIsOfAllAhead(t *testing.T) {
	for _, n := range someNotes() {
		b := bytesByWords(n)
		ahead := b[:len(b)-2]
		for _, other := range [][]byte{nil, ahead[1:], ahead[:len(ahead)-1], ahead[2:], append(slices.Clone(ahead), 0)} {
			high, low := sumByWords(other)
			wantNone(t, append(slices.Clone(ahead), high, low))
		}
		wantNone(t, append(slices.Clone(ahead), ^b[len(b)-2], ^b[len(b)-1]))
		wantNone(t, append(slices.Clone(ahead), 0, 0))
	}
}

func TestP18_1_WriteManyByWords(t *testing.T) {
	all := notes()
	if b, e := Write(all); !bytes.Equal(b, streamByWords(all)) || e != api.OK {
		t.Errorf("Write of %d notes: %d bytes, %d", len(all), len(b), e)
	}
	for _, x := range someNotes() {
		for _, y := range someNotes() {
			l := []api.Note{x, y}
			if b, e := Write(l); !bytes.Equal(b, streamByWords(l)) || e != api.OK {
				t.Fatalf("Write(%v): % X, %d", l, b, e)
			}
		}
	}
}

// TestP18_1_WriteWithOneThatIsNone puts it wherever it may stand.
func TestP18_1_WriteWithOneThatIsNone(t *testing.T) {
	good := someNotes()
	for _, wrong := range []api.Note{{}, {Kind: 9, A: 1}, {Kind: -1}, {Kind: api.JCancel, A: -1}, {Kind: api.JCancel, A: 1 << 31}, {Kind: api.JCancel, A: 1, B: 1}, {Kind: api.JPut, C: 1}, {Kind: api.JMask, A: 1, B: 2}} {
		for size := range len(good) + 1 {
			for at := range size + 1 {
				l := slices.Insert(slices.Clone(good[:size]), at, wrong)
				if b, e := Write(l); len(b) != 0 || e != api.ErrNote {
					t.Fatalf("Write(%v): % X, %d", l, b, e)
				}
				if b, e := Write(append(l, wrong)); len(b) != 0 || e != api.ErrNote {
					t.Fatalf("Write(%v): % X, %d", l, b, e)
				}
			}
		}
	}
}

// TestP18_1_ReadEndsAtWhatIsNone has notes behind bytes that are none's: these are not read.
func TestP18_1_ReadEndsAtWhatIsNone(t *testing.T) {
	good := someNotes()
	turned := bytesByWords(good[0])
	turned[len(turned)-1] ^= 1
	for _, wrong := range [][]byte{{0}, {255}, {2}, turned, framed(9, 1), framed(3, 0x80, 0), framed(3), framed(8, 1, 2), framed(3, 1, 1)} {
		for size := range len(good) + 1 {
			ahead := streamByWords(good[:size])
			wantRead(t, append(slices.Clone(ahead), wrong...), good[:size], len(ahead))
			wantRead(t, slices.Concat(ahead, wrong, streamByWords(good)), good[:size], len(ahead))
		}
	}
}

// chanceStream is whole notes, cut ones, turned ones, and other bytes.
func chanceStream(rnd *rand.Rand) []byte {
	var b []byte
	for range rnd.Intn(12) {
		p := bytesByWords(chanceNote(rnd))
		switch rnd.Intn(12) {
		case 0:
			p = p[:rnd.Intn(len(p))]
		case 1:
			p[rnd.Intn(len(p))] ^= byte(1 + rnd.Intn(255))
		case 2:
			p = []byte{byte(rnd.Intn(256)), byte(rnd.Intn(10)), byte(rnd.Intn(256))}
		case 3:
			body := make([]byte, rnd.Intn(20))
			rnd.Read(body)
			p = framed(body...)
		}
		b = append(b, p...)
	}
	return b
}

func TestP18_1_ReadByWords(t *testing.T) {
	rnd := rand.New(rand.NewSource(2))
	for range 20000 {
		b := chanceStream(rnd)
		l, size := readByWords(b)
		wantRead(t, b, l, size)
		for at := range b {
			wantByWords(t, b[at:])
		}
	}
}

func TestP18_2_WhatIsWrittenIsRead(t *testing.T) {
	rnd := rand.New(rand.NewSource(3))
	lists := [][]api.Note{nil, notes(), someNotes(), chanceNotes(rnd, 100000)}
	for many := range 200 {
		lists = append(lists, chanceNotes(rnd, many), slices.Repeat([]api.Note{chanceNote(rnd)}, many))
	}
	for _, l := range lists {
		b, e := Write(l)
		if e != api.OK {
			t.Fatalf("Write of %d notes: %d", len(l), e)
		}
		if got, size := Read(b); !slices.Equal(got, l) || size != len(b) {
			t.Fatalf("%d notes of %d bytes: %d of %d are read", len(l), len(b), len(got), size)
		}
	}
}

func TestP18_2_EncodedIsDecoded(t *testing.T) {
	for _, n := range notes() {
		b, e := Encode(n)
		if e != api.OK {
			t.Fatalf("Encode(%v): %d", n, e)
		}
		wantDecode(t, b, n, len(b), api.OK)
	}
}

// TestP18_2_WhatIsReadIsWrittenSo: a note has its own bytes alone.
func TestP18_2_WhatIsReadIsWrittenSo(t *testing.T) {
	rnd := rand.New(rand.NewSource(4))
	for range 5000 {
		b := chanceStream(rnd)
		l, size := Read(b)
		if w, e := Write(l); !bytes.Equal(w, b[:size]) || e != api.OK {
			t.Fatalf("% X is read as %v, written as % X, %d", b[:size], l, w, e)
		}
	}
}

// TestP18_2_WrittenIsEncodedOneByOne: Write of a list is its notes' bytes, and Read goes by Decode.
func TestP18_2_WrittenIsEncodedOneByOne(t *testing.T) {
	rnd := rand.New(rand.NewSource(5))
	for range 500 {
		l := chanceNotes(rnd, rnd.Intn(20))
		whole, _ := Write(l)
		var each []byte
		for _, n := range l {
			b, _ := Encode(n)
			each = append(each, b...)
		}
		if !bytes.Equal(whole, each) {
			t.Fatalf("Write(%v): % X, one by one % X", l, whole, each)
		}
		at := 0
		for _, n := range l {
			got, size, e := Decode(whole[at:])
			if got != n || e != api.OK {
				t.Fatalf("Decode at %d of % X: %v, %d, want %v", at, whole, got, e, n)
			}
			at += size
		}
	}
}

func TestP18_2_NoBeginningIsANote(t *testing.T) {
	rnd := rand.New(rand.NewSource(6))
	for _, n := range slices.Concat(notes(), chanceNotes(rnd, 5000)) {
		b, _ := Encode(n)
		for at := range b {
			wantNone(t, b[:at])
			wantRead(t, b[:at], nil, 0)
		}
	}
}

// TestP18_2_CutAnywhere: of what was written the whole notes ahead of the cut are read, and nothing else.
func TestP18_2_CutAnywhere(t *testing.T) {
	rnd := rand.New(rand.NewSource(7))
	lists := [][]api.Note{someNotes(), slices.Repeat([]api.Note{{Kind: api.JPut}}, 40)}
	for range 60 {
		lists = append(lists, chanceNotes(rnd, rnd.Intn(40)))
	}
	for _, l := range lists {
		b, e := Write(l)
		if e != api.OK {
			t.Fatalf("Write(%v): %d", l, e)
		}
		whole, size := 0, 0
		for cut := range len(b) + 1 {
			if whole < len(l) && size+len(bytesByWords(l[whole])) == cut {
				whole, size = whole+1, cut
			}
			wantRead(t, b[:cut], l[:whole], size)
		}
		if whole != len(l) || size != len(b) {
			t.Errorf("%d of %d notes, %d of %d bytes", whole, len(l), size, len(b))
		}
	}
}

// TestP18_2_MoreIsReadBehind: what was cut off is put behind again, and all is there.
func TestP18_2_MoreIsReadBehind(t *testing.T) {
	l := someNotes()
	b, _ := Write(l)
	for cut := range len(b) + 1 {
		first, size := Read(b[:cut])
		rest, more := Read(b[size:])
		if !slices.Equal(slices.Concat(first, rest), l) || size+more != len(b) {
			t.Fatalf("cut at %d: %v, then %v", cut, first, rest)
		}
	}
}

// overlap tells whether two lists share memory, spare room too.
func overlap[A, B any](a []A, b []B) bool {
	if cap(a) == 0 || cap(b) == 0 {
		return false
	}
	var one A
	var other B
	x, y := uintptr(unsafe.Pointer(unsafe.SliceData(a))), uintptr(unsafe.Pointer(unsafe.SliceData(b)))
	return x < y+uintptr(cap(b))*unsafe.Sizeof(other) && y < x+uintptr(cap(a))*unsafe.Sizeof(one)
}

// scribble writes over a list, spare room too.
func scribble[T any](list []T, with T) {
	room := list[:cap(list)]
	for i := range room {
		room[i] = with
	}
}

// roomy is a list with room behind it, in which something stands.
func roomy[T any](l []T, behind ...T) []T {
	return slices.Concat(l, behind)[:len(l)]
}

func TestP18_3_BytesStay(t *testing.T) {
	rnd := rand.New(rand.NewSource(8))
	for range 2000 {
		b := chanceStream(rnd)
		// What stands in the room would make the last note whole, if it were read.
		given := roomy(b, bytesByWords(chanceNote(rnd))...)
		was := slices.Clone(given[:cap(given)])
		Read(given)
		for at := range given {
			Decode(given[at:])
			Decode(given[:at])
			Read(given[:at])
		}
		if !bytes.Equal(given[:cap(given)], was) {
			t.Fatalf("% X became % X", was, given[:cap(given)])
		}
	}
}

// TestP18_3_RoomIsNotRead: bytes that stand behind a list aren't of it.
func TestP18_3_RoomIsNotRead(t *testing.T) {
	for _, n := range someNotes() {
		b := bytesByWords(n)
		for at := range b {
			wantNone(t, roomy(b[:at], b[at:]...))
			wantRead(t, roomy(slices.Concat(b, b[:at]), b[at:]...), []api.Note{n}, len(b))
		}
	}
}

func TestP18_3_NotesStay(t *testing.T) {
	wrong := api.Note{Kind: 9, A: 8, B: 7, C: 6}
	good := someNotes()
	for size := range len(good) + 1 {
		for _, l := range [][]api.Note{good[:size], append(slices.Clone(good[:size]), wrong), append([]api.Note{wrong}, good[:size]...)} {
			given := roomy(l, wrong, good[0])
			was := slices.Clone(given[:cap(given)])
			first, e := Write(given)
			scribble(first, 0x77)
			if again, f := Write(given); f != e || e == api.OK && !bytes.Equal(again, streamByWords(l)) {
				t.Fatalf("Write(%v): % X, %d, first %d", l, again, f, e)
			}
			if !slices.Equal(given[:cap(given)], was) {
				t.Fatalf("%v became %v", was, given[:cap(given)])
			}
		}
	}
}

func TestP18_3_AnswersOfEncodeAndWrite(t *testing.T) {
	for _, n := range someNotes() {
		a, _ := Encode(n)
		b, _ := Encode(n)
		l := roomy([]api.Note{n, n}, n)
		c, _ := Write(l)
		d, _ := Write(l)
		if overlap(a, b) || overlap(a, c) || overlap(c, d) || overlap(c, l) || overlap(d, l) {
			t.Fatalf("%v: answers share their memory", n)
		}
		want := bytesByWords(n)
		scribble(a, 0x77)
		scribble(c, 0x77)
		_ = append(a, 1, 2, 3)
		_ = append(c, 1, 2, 3)
		if !bytes.Equal(b, want) || !bytes.Equal(d, slices.Concat(want, want)) || !slices.Equal(l, []api.Note{n, n}) {
			t.Fatalf("%v: what was done to an answer changed another one", n)
		}
		wantTaken(t, n, want)
		scribble(l, api.Note{Kind: 99})
		if !bytes.Equal(d, slices.Concat(want, want)) {
			t.Fatalf("%v: an answer changes with what was handed in", n)
		}
	}
}

func TestP18_3_AnswersOfRead(t *testing.T) {
	rnd := rand.New(rand.NewSource(9))
	for range 2000 {
		stream := chanceStream(rnd)
		given := roomy(stream, 1, 2, 3)
		was := slices.Clone(given[:cap(given)])
		want, size := readByWords(stream)
		a, _ := Read(given)
		b, _ := Read(given)
		if overlap(a, b) || overlap(a, given) || overlap(b, given) {
			t.Fatalf("% X: answers share their memory", stream)
		}
		scribble(a, api.Note{Kind: 99, A: -1})
		_ = append(a, api.Note{})
		if !slices.Equal(b, want) || !bytes.Equal(given[:cap(given)], was) {
			t.Fatalf("% X: what was done to an answer changed something else", stream)
		}
		wantRead(t, given, want, size)
		scribble(given, 0x77)
		if !slices.Equal(b, want) {
			t.Fatalf("% X: an answer changes with what was handed in", stream)
		}
	}
}

// TestP7_NothingIsKept has the same calls again behind others, refused ones among them.
func TestP7_NothingIsKept(t *testing.T) {
	rnd := rand.New(rand.NewSource(10))
	for range 3000 {
		n := chanceNote(rnd)
		Encode(api.Note{Kind: 1 + rnd.Intn(8), A: -1})
		Decode(chanceStream(rnd))
		Write([]api.Note{chanceNote(rnd), {Kind: 9}})
		Read(chanceStream(rnd))
		wantTaken(t, n, bytesByWords(n))
	}
}

func TestP6_NoCallPanics(t *testing.T) {
	for pair := range 65536 {
		b := []byte{byte(pair), byte(pair >> 8)}
		wantNone(t, b[:1])
		wantNone(t, b)
		Read(b)
	}
	rnd := rand.New(rand.NewSource(11))
	for size := range 300 {
		for range 30 {
			b := make([]byte, size)
			rnd.Read(b)
			wantByWords(t, b)
			Read(b)
			if size < 254 {
				Decode(framed(b...))
				Read(framed(b...))
			}
		}
		for _, v := range []byte{0, 1, 127, 128, 255} {
			wantByWords(t, bytes.Repeat([]byte{v}, size))
			Read(bytes.Repeat([]byte{v}, size))
		}
	}
	for _, kind := range slices.Concat(kinds(), wrongKinds()) {
		for _, v := range slices.Concat(edgeNumbers(), wrongNumbers()) {
			n := api.Note{Kind: kind, A: v, B: v, C: v}
			Check(n)
			Encode(n)
			Write([]api.Note{n, n})
		}
	}
}
