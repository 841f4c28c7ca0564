package tele

import (
	"bytes"
	"math"
	"slices"
	"testing"

	"stillage/api"
	"stillage/crc"
)

// rule says of one kind which fields the chapter's table allows: from the first number to the second.
type rule struct {
	kind      uint8
	seq, a, b [2]uint16
}

var (
	anyNumber = [2]uint16{0, math.MaxUint16}
	tote      = [2]uint16{1, 30}
	nought    = [2]uint16{0, 0}
)

// table is the chapter's table, row by row.
func table() []rule {
	return []rule{
		{1, anyNumber, tote, nought},
		{2, anyNumber, tote, nought},
		{3, anyNumber, tote, [2]uint16{1, 3}},
		{4, nought, nought, nought},
		{5, nought, nought, nought},
		{6, anyNumber, nought, nought},
		{7, anyNumber, anyNumber, [2]uint16{0, 30}},
	}
}

// bytesByWords lays a telegram's bytes as the chapter has them, whatever its fields are.
func bytesByWords(t api.Tele) []byte {
	b := []byte{
		0xA5, t.Kind,
		byte(t.Dev / 256), byte(t.Dev % 256),
		byte(t.Seq / 256), byte(t.Seq % 256),
		byte(t.A / 256), byte(t.A % 256),
		byte(t.B / 256), byte(t.B % 256),
	}
	s := crc.Sum(b)
	return append(b, byte(s/256), byte(s%256))
}

func checkByWords(t api.Tele) api.Errno {
	for _, r := range table() {
		if r.kind != t.Kind {
			continue
		}
		for _, f := range []struct {
			v    uint16
			ends [2]uint16
		}{{t.Dev, [2]uint16{1, 200}}, {t.Seq, r.seq}, {t.A, r.a}, {t.B, r.b}} {
			if f.v < f.ends[0] || f.v > f.ends[1] {
				return api.ErrField
			}
		}
		return api.OK
	}
	return api.ErrKind
}

// splitByWords goes byte by byte, with the table and the sums of the chapter.
func splitByWords(b []byte) (l []api.Tele, left []byte, n int) {
	at := 0
	for at+12 <= len(b) {
		p := b[at : at+12]
		w := func(i int) uint16 { return uint16(p[i])*256 + uint16(p[i+1]) }
		t := api.Tele{Kind: p[1], Dev: w(2), Seq: w(4), A: w(6), B: w(8)}
		if bytes.Equal(bytesByWords(t), p) && checkByWords(t) == api.OK {
			l = append(l, t)
			at += 12
		} else {
			at++
			n++
		}
	}
	return l, bytes.Clone(b[at:]), n
}

// edges are the values of a field at and about both ends of each range of the table.
func edges() []uint16 {
	return []uint16{0, 1, 2, 3, 4, 29, 30, 31, 199, 200, 201, 255, 256, 257, 0x7FFF, 0x8000, math.MaxUint16}
}

// eachTele calls visit with telegrams, good and bad, whose fields are at all the edges.
func eachTele(visit func(api.Tele)) {
	for _, kind := range []uint8{0, 1, 2, 3, 4, 5, 6, 7, 8, 9, 0x81, math.MaxUint8} {
		for _, dev := range edges() {
			for _, seq := range []uint16{0, 1, 255, 256, math.MaxUint16} {
				for _, a := range edges() {
					for _, b := range edges() {
						visit(api.Tele{Kind: kind, Dev: dev, Seq: seq, A: a, B: b})
					}
				}
			}
		}
	}
}

// good are telegrams of each kind, at both ends of their ranges.
func good() []api.Tele {
	var l []api.Tele
	for _, r := range table() {
		for end := range 2 {
			l = append(l, api.Tele{Kind: r.kind, Dev: []uint16{1, 200}[end], Seq: r.seq[end], A: r.a[end], B: r.b[end]})
		}
	}
	return l
}

func streamOf(l []api.Tele) []byte {
	var b []byte
	for _, t := range l {
		b = append(b, bytesByWords(t)...)
	}
	return b
}

func wantSplit(t *testing.T, b []byte, l []api.Tele, left []byte, n int) {
	t.Helper()
	gotL, gotLeft, gotN := Split(b)
	if !slices.Equal(gotL, l) || !bytes.Equal(gotLeft, left) || gotN != n {
		t.Errorf("Split(% X): %v, % X, %d, want %v, % X, %d", b, gotL, gotLeft, gotN, l, left, n)
	}
}

func wantDecode(t *testing.T, b []byte, tele api.Tele, errno api.Errno) {
	t.Helper()
	if got, e := Decode(b); got != tele || e != errno {
		t.Errorf("Decode(% X): %v, %d, want %v, %d", b, got, e, tele, errno)
	}
}

func TestP2_1_CheckAndEncodeAtTheEdges(t *testing.T) {
	eachTele(func(x api.Tele) {
		want := checkByWords(x)
		if e := Check(x); e != want {
			t.Fatalf("Check(%v): %d, want %d", x, e, want)
		}
		b, e := Encode(x)
		if e != want {
			t.Fatalf("Encode(%v): %d, want %d", x, e, want)
		}
		if want != api.OK && len(b) != 0 {
			t.Fatalf("Encode(%v): % X beside an error", x, b)
		}
		if want == api.OK && !bytes.Equal(b, bytesByWords(x)) {
			t.Fatalf("Encode(%v): % X, want % X", x, b, bytesByWords(x))
		}
	})
}

func TestP2_1_CheckEveryKind(t *testing.T) {
	for kind := range 256 {
		x := api.Tele{Kind: uint8(kind), Dev: 0, Seq: 1, A: 77, B: 77}
		want := api.ErrKind
		if 1 <= kind && kind <= 7 {
			want = api.ErrField
		}
		if e := Check(x); e != want {
			t.Errorf("Check(%v): %d, want %d", x, e, want)
		}
	}
}

func TestP2_1_CheckEveryDevice(t *testing.T) {
	for dev := range 0x10000 {
		want := api.ErrField
		if 1 <= dev && dev <= 200 {
			want = api.OK
		}
		if e := Check(api.Tele{Kind: api.TAsk, Dev: uint16(dev)}); e != want {
			t.Fatalf("Check, Dev %d: %d, want %d", dev, e, want)
		}
	}
}

func TestP2_1_Examples(t *testing.T) {
	b, e := Encode(api.Tele{Kind: api.TMove, Dev: 1, Seq: 2, A: 3})
	head := []byte{0xA5, 1, 0, 1, 0, 2, 0, 3, 0, 0}
	s := crc.Sum(head)
	if want := append(head, byte(s>>8), byte(s)); e != api.OK || !bytes.Equal(b, want) {
		t.Errorf("Encode: % X, %d, want % X", b, e, want)
	}
	if e := Check(api.Tele{Kind: 9, Dev: 1}); e != api.ErrKind {
		t.Errorf("kind 9: %d", e)
	}
	if e := Check(api.Tele{Kind: 9}); e != api.ErrKind {
		t.Errorf("kind 9, Dev 0: %d", e)
	}
	if e := Check(api.Tele{Kind: api.TMove, A: 1}); e != api.ErrField {
		t.Errorf("Dev 0: %d", e)
	}
}

func TestP2_1_DecodeAtTheEdges(t *testing.T) {
	eachTele(func(x api.Tele) {
		want, tele := checkByWords(x), x
		if want != api.OK {
			tele = api.Tele{}
		}
		if got, e := Decode(bytesByWords(x)); got != tele || e != want {
			t.Fatalf("Decode(% X): %v, %d, want %v, %d", bytesByWords(x), got, e, tele, want)
		}
	})
}

func TestP2_1_DecodeLengths(t *testing.T) {
	for _, x := range good() {
		long := append(bytesByWords(x), bytesByWords(x)...)
		for n := range len(long) + 1 {
			if n == 12 {
				wantDecode(t, long[:n], x, api.OK)
			} else {
				wantDecode(t, long[:n], api.Tele{}, api.ErrLength)
			}
		}
	}
	wantDecode(t, nil, api.Tele{}, api.ErrLength)
	wantDecode(t, []byte{}, api.Tele{}, api.ErrLength)
}

func TestP2_1_DecodeEveryMark(t *testing.T) {
	for m := range 256 {
		b := bytesByWords(api.Tele{Kind: api.TDone, Dev: 7, Seq: 500, A: 30})
		b[0] = byte(m)
		s := crc.Sum(b[:10]) // a true sum, so that the mark alone is wrong
		b[10], b[11] = byte(s>>8), byte(s)
		if m == 0xA5 {
			wantDecode(t, b, api.Tele{Kind: api.TDone, Dev: 7, Seq: 500, A: 30}, api.OK)
		} else {
			wantDecode(t, b, api.Tele{}, api.ErrMark)
		}
	}
}

func TestP2_1_DecodeEveryTurnedBit(t *testing.T) {
	for _, x := range good() {
		for at := range 8 * 12 {
			b := bytesByWords(x)
			b[at/8] ^= 0x80 >> (at % 8)
			want := api.ErrSum
			if at < 8 {
				want = api.ErrMark
			}
			wantDecode(t, b, api.Tele{}, want)
		}
	}
}

func TestP2_1_DecodeTheFirstError(t *testing.T) {
	badKind := bytesByWords(api.Tele{Kind: 9, Dev: 0, A: 77})
	badField := bytesByWords(api.Tele{Kind: api.TMove, Dev: 201, A: 1})
	with := func(b []byte, at int, v byte) []byte {
		c := bytes.Clone(b)
		c[at] = v
		return c
	}
	wantDecode(t, badKind, api.Tele{}, api.ErrKind)
	wantDecode(t, badField, api.Tele{}, api.ErrField)
	wantDecode(t, with(badKind, 11, badKind[11]^1), api.Tele{}, api.ErrSum)
	wantDecode(t, with(badField, 10, badField[10]^1), api.Tele{}, api.ErrSum)
	wantDecode(t, with(with(badKind, 11, badKind[11]^1), 0, 0x5A), api.Tele{}, api.ErrMark)
	wantDecode(t, with(badKind, 0, 0)[:11], api.Tele{}, api.ErrLength)
	wantDecode(t, append(with(badKind, 0, 0), 0), api.Tele{}, api.ErrLength)
	// Swapped bytes of the sum are another sum.
	b := bytesByWords(api.Tele{Kind: api.TMove, Dev: 1, Seq: 2, A: 3})
	if b[10] == b[11] {
		t.Fatal("the sum's bytes are alike")
	}
	b[10], b[11] = b[11], b[10]
	wantDecode(t, b, api.Tele{}, api.ErrSum)
}

func TestP2_1_SplitAroundTelegrams(t *testing.T) {
	x, y := api.Tele{Kind: api.TMove, Dev: 1, Seq: 0xA5A5, A: 4}, api.Tele{Kind: api.TFault, Dev: 200}
	bx, by := bytesByWords(x), bytesByWords(y)
	wantSplit(t, nil, nil, nil, 0)
	wantSplit(t, []byte{}, nil, nil, 0)
	wantSplit(t, bx[:11], nil, bx[:11], 0)
	wantSplit(t, bx, []api.Tele{x}, nil, 0)
	wantSplit(t, slices.Concat(bx, []byte{1}), []api.Tele{x}, []byte{1}, 0)
	wantSplit(t, slices.Concat([]byte{1}, bx), []api.Tele{x}, nil, 1)
	wantSplit(t, slices.Concat([]byte{0xA5}, bx), []api.Tele{x}, nil, 1)
	wantSplit(t, slices.Concat(bx, []byte{0xA5, 0xA5, 0}, by), []api.Tele{x, y}, nil, 3)
	wantSplit(t, slices.Concat(bx[:11], by), []api.Tele{y}, nil, 11)
	wantSplit(t, slices.Concat(bx, by[:11]), []api.Tele{x}, by[:11], 0)
	wantSplit(t, slices.Concat(by, bx[1:], by), []api.Tele{y, y}, nil, 11)
	wantSplit(t, make([]byte, 12), nil, make([]byte, 11), 1)
	wantSplit(t, bytes.Repeat([]byte{0xA5}, 100), nil, bytes.Repeat([]byte{0xA5}, 11), 89)
}

func TestP2_1_SplitPassesWrongTelegrams(t *testing.T) {
	y := api.Tele{Kind: api.TState, Dev: 3, Seq: 1, A: 65535, B: 30}
	for _, wrong := range []api.Tele{{Kind: 9, Dev: 1}, {Kind: api.TMove, Dev: 0, A: 1}, {Kind: api.TMove, Dev: 1}} {
		b := bytesByWords(wrong)
		wantSplit(t, b, nil, b[1:], 1)
		wantSplit(t, append(b, bytesByWords(y)...), []api.Tele{y}, nil, 12)
	}
	b := bytesByWords(y)
	b[11] ^= 1
	wantSplit(t, append(b, bytesByWords(y)...), []api.Tele{y}, nil, 12)
}

// A telegram's bytes may themselves hold another's beginning: the one that comes first is taken.
func TestP2_1_SplitOverlapping(t *testing.T) {
	inner := api.Tele{Kind: api.TState, Dev: 1, Seq: 0x0102, A: 0x0304, B: 5}
	b := bytesByWords(inner)
	outer := api.Tele{Kind: api.TState, Dev: 1, Seq: uint16(b[0])<<8 | uint16(b[1]), A: uint16(b[2])<<8 | uint16(b[3]), B: 5}
	stream := slices.Concat(bytesByWords(outer), b[4:])
	wantSplit(t, stream, []api.Tele{outer}, b[4:], 0)
	wantSplit(t, slices.Concat(bytesByWords(outer)[:4], b), []api.Tele{inner}, nil, 4)
}

func TestP2_1_SplitByWords(t *testing.T) {
	for seed := range uint32(400) {
		b := mixedStream(seed)
		l, left, n := splitByWords(b)
		wantSplit(t, b, l, left, n)
		if 12*len(l)+len(left)+n != len(b) {
			t.Fatalf("seed %d: %d bytes, %d telegrams, %d left, %d passed", seed, len(b), len(l), len(left), n)
		}
	}
}

// mixedStream is whole telegrams, cut ones, marks and other bytes, the same ones for the same seed.
func mixedStream(seed uint32) []byte {
	next := func(n int) int {
		seed = seed*1664525 + 1013904223
		return int(seed>>8) % n
	}
	all := good()
	var b []byte
	for range next(12) {
		p := bytesByWords(all[next(len(all))])
		switch next(6) {
		case 0:
			p = p[:next(12)]
		case 1:
			p[next(12)] ^= byte(1 + next(255))
		case 2:
			p = bytes.Repeat([]byte{0xA5}, next(14))
		case 3:
			p = []byte{byte(next(256)), 0xA5, byte(next(9))}
		}
		b = append(b, p...)
	}
	return b
}

func TestP2_2_ThereAndBack(t *testing.T) {
	eachTele(func(x api.Tele) {
		if checkByWords(x) != api.OK {
			return
		}
		b, e := Encode(x)
		got, d := Decode(b)
		if e != api.OK || d != api.OK || got != x || len(b) != 12 {
			t.Fatalf("%v: % X, %d, %v, %d", x, b, e, got, d)
		}
	})
	for seq := range 0x10000 {
		for _, x := range []api.Tele{{Kind: api.TDone, Dev: 9, Seq: uint16(seq), A: 8}, {Kind: api.TState, Dev: 9, A: uint16(seq), B: 8}} {
			b, _ := Encode(x)
			if got, e := Decode(b); got != x || e != api.OK {
				t.Fatalf("%v: read as %v, %d", x, got, e)
			}
		}
	}
}

func TestP2_2_WhatIsReadIsWrittenSo(t *testing.T) {
	for seed := range uint32(400) {
		b := mixedStream(seed)
		for at := 0; at+12 <= len(b); at++ {
			x, e := Decode(b[at : at+12])
			if e != api.OK {
				continue
			}
			if w, e := Encode(x); e != api.OK || !bytes.Equal(w, b[at:at+12]) {
				t.Fatalf("% X is read as %v, written as % X, %d", b[at:at+12], x, w, e)
			}
		}
	}
}

func TestP2_3_OneBehindTheOther(t *testing.T) {
	l := good()
	for n := range len(l) + 1 {
		wantSplit(t, streamOf(l[:n]), l[:n], nil, 0)
	}
	for i := range l {
		for j := range l {
			wantSplit(t, streamOf([]api.Tele{l[i], l[j]}), []api.Tele{l[i], l[j]}, nil, 0)
		}
	}
}

// inPieces hands a stream in piece by piece, each behind what the one ahead left.
func inPieces(pieces ...[]byte) (l []api.Tele, left []byte, n int) {
	for _, p := range pieces {
		more, rest, passed := Split(slices.Concat(left, p))
		l, left, n = append(l, more...), rest, n+passed
	}
	return l, left, n
}

func TestP2_3_CutAnywhere(t *testing.T) {
	for seed := range uint32(60) {
		b := mixedStream(seed)
		l, left, n := Split(b)
		same := func(gotL []api.Tele, gotLeft []byte, gotN int) bool {
			return slices.Equal(gotL, l) && bytes.Equal(gotLeft, left) && gotN == n
		}
		for at := range len(b) + 1 {
			if !same(inPieces(b[:at], b[at:])) {
				t.Fatalf("seed %d, cut at %d: not the same", seed, at)
			}
		}
		for width := 1; width < 30; width++ {
			if !same(inPieces(slices.Collect(slices.Chunk(b, width))...)) {
				t.Fatalf("seed %d, pieces of %d: not the same", seed, width)
			}
		}
	}
}

func TestP2_3_LongStream(t *testing.T) {
	l := slices.Repeat(good(), 5000)
	b := streamOf(l)
	got, left, n := Split(b)
	if !slices.Equal(got, l) || len(left) != 0 || n != 0 {
		t.Errorf("%d telegrams: %d, %d left, %d passed", len(l), len(got), len(left), n)
	}
	if got, left, n = Split(bytes.Repeat([]byte{0xA5}, 1<<20)); len(got) != 0 || len(left) != 11 || n != 1<<20-11 {
		t.Errorf("marks: %d, %d left, %d passed", len(got), len(left), n)
	}
}

func TestP2_4_WhatIsHandedInStays(t *testing.T) {
	for seed := range uint32(60) {
		b := mixedStream(seed)
		room := append(slices.Clone(b), bytes.Repeat([]byte{0xEE}, 24)...)
		before := bytes.Clone(room)
		Split(room[:len(b)])
		for at := 0; at+12 <= len(b); at++ {
			Decode(room[at : at+12])
		}
		if !bytes.Equal(room, before) {
			t.Fatalf("seed %d: what was handed in is changed", seed)
		}
	}
}

func TestP2_4_AnswersAreNewMemory(t *testing.T) {
	x := api.Tele{Kind: api.TMove, Dev: 1, Seq: 2, A: 3}
	b, _ := Encode(x)
	again, _ := Encode(x)
	fill(b)
	if !bytes.Equal(again, bytesByWords(x)) {
		t.Error("two answers of Encode share memory")
	}
	for _, tail := range [][]byte{nil, {1}, {1, 2, 3, 4, 5, 6, 7, 8, 9, 10, 11}} {
		stream := slices.Concat(bytesByWords(x), tail)
		room := append(slices.Clone(stream), bytes.Repeat([]byte{0xEE}, 24)...)
		before := bytes.Clone(room)
		_, left, _ := Split(room[:len(stream)])
		_, other, _ := Split(room[:len(stream)])
		fill(left)
		if !bytes.Equal(room, before) {
			t.Errorf("tail %v: what is left shares memory with what was handed in", tail)
		}
		if !bytes.Equal(other, tail) {
			t.Errorf("tail %v: two answers share memory", tail)
		}
		fill(room)
		if !bytes.Equal(other, tail) {
			t.Errorf("tail %v: what is left changes with what was handed in", tail)
		}
	}
}

// fill writes over a list and its spare room.
func fill(b []byte) {
	b = b[:cap(b)]
	for i := range b {
		b[i] = 0x77
	}
}
