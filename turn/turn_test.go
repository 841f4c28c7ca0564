package turn

import (
	"math"
	"slices"
	"testing"

	"stillage/api"
)

const whole = 65536

// mod is the rest of v from 0 to 65535, for numbers below 0 too.
func mod(v int) int {
	return (v%whole + whole) % whole
}

// distByWords tries the numbers from -32768 to 32767, one by one.
func distByWords(t *testing.T, a, b uint16) int {
	t.Helper()
	for d := -32768; d <= 32767; d++ {
		if mod(int(a)+d) == int(b) {
			return d
		}
	}
	t.Fatalf("no distance from %d to %d", a, b)
	return 0
}

// likelyByWords looks at every number with these lowest bits about last, from the least on.
func likelyByWords(last int, s uint16) int {
	best, away := -1, math.MaxInt
	first := last - last%whole - 2*whole + int(s)
	for n := first; n <= first+4*whole; n += whole {
		apart := max(n-last, last-n)
		if n >= 0 && apart < away {
			best, away = n, apart
		}
	}
	return best
}

// orderByWords goes once round from lo on and takes what the list has.
func orderByWords(l []uint16, lo uint16) []uint16 {
	var out []uint16
	for i := range whole {
		if s := uint16(mod(int(lo) + i)); slices.Contains(l, s) {
			out = append(out, s)
		}
	}
	return out
}

// edges are the numbers where something turns.
func edges() []uint16 {
	return []uint16{0, 1, 2, 255, 256, 32766, 32767, 32768, 32769, 65533, 65534, 65535}
}

func TestP3_1_DistAtItsEnds(t *testing.T) {
	for _, c := range []struct {
		a, b uint16
		want int
	}{
		{65535, 0, 1}, {0, 65535, -1}, {5, 5, 0}, {100, 103, 3}, {103, 100, -3},
		{0, 32767, 32767}, {0, 32768, -32768}, {0, 32769, -32767},
		{32768, 0, -32768}, {32767, 0, -32767}, {32769, 0, 32767},
		{65535, 32766, 32767}, {65535, 32767, -32768}, {65535, 32768, -32767},
	} {
		if got := Dist(c.a, c.b); got != c.want {
			t.Errorf("Dist(%d, %d): %d, want %d", c.a, c.b, got, c.want)
		}
	}
}

func TestP3_1_DistByWords(t *testing.T) {
	for _, a := range edges() {
		for _, b := range edges() {
			want := distByWords(t, a, b)
			if got := Dist(a, b); got != want {
				t.Errorf("Dist(%d, %d): %d, want %d", a, b, got, want)
			}
		}
	}
}

func TestP3_1_DistOfEveryNumber(t *testing.T) {
	for _, a := range edges() {
		for d := -32768; d <= 32767; d++ {
			b := uint16(mod(int(a) + d))
			if got := Dist(a, b); got != d {
				t.Fatalf("Dist(%d, %d): %d, want %d", a, b, got, d)
			}
		}
	}
}

func TestP3_1_BehindIsADistanceAboveNought(t *testing.T) {
	for _, c := range []struct {
		a, b uint16
		want bool
	}{
		{7, 7, false}, {7, 8, true}, {8, 7, false}, {65535, 0, true}, {0, 65535, false},
		{0, 32767, true}, {0, 32768, false}, {32768, 0, false}, {32769, 0, true},
	} {
		if got := Behind(c.a, c.b); got != c.want {
			t.Errorf("Behind(%d, %d): %v", c.a, c.b, got)
		}
	}
	for _, a := range edges() {
		for _, b := range edges() {
			if got := Behind(a, b); got != (distByWords(t, a, b) > 0) {
				t.Errorf("Behind(%d, %d): %v", a, b, got)
			}
		}
	}
}

func TestP3_1_WithinCountsFromLo(t *testing.T) {
	for _, lo := range edges() {
		for _, n := range []int{1, 2, 3, 255, 256, 32767, 32768, 32769, 65534, 65535} {
			for i := range whole {
				s := uint16(mod(int(lo) + i))
				if got := Within(s, lo, n); got != (i < n) {
					t.Fatalf("Within(%d, %d, %d): %v", s, lo, n, got)
				}
			}
		}
	}
}

func TestP3_1_WithinOfNoneAndOfAll(t *testing.T) {
	for _, lo := range edges() {
		for _, s := range edges() {
			for _, n := range []int{0, -1, -2, -65535, -65536, math.MinInt + 1, math.MinInt} {
				if Within(s, lo, n) {
					t.Errorf("Within(%d, %d, %d): true", s, lo, n)
				}
			}
			for _, n := range []int{65536, 65537, 131072, 1 << 32, math.MaxInt - 1, math.MaxInt} {
				if !Within(s, lo, n) {
					t.Errorf("Within(%d, %d, %d): false", s, lo, n)
				}
			}
		}
	}
}

func TestP3_1_LikelyAsToldInTheChapter(t *testing.T) {
	for _, c := range []struct {
		last int
		s    uint16
		want int
	}{
		{65540, 65535, 65535}, {0, 65535, 65535}, {32768, 0, 0},
		{32767, 0, 0}, {32769, 0, 65536}, {100, 101, 101}, {101, 100, 100},
		// Two as near: the lesser, unless it is below 0.
		{98304, 0, 65536}, {65536, 32768, 32768}, {0, 32768, 32768}, {32767, 65535, 65535}, {32768, 65535, 65535},
		// The nearest one would be below 0.
		{0, 32769, 32769}, {1, 65535, 65535}, {10, 40000, 40000}, {32766, 65535, 65535},
		{0, 0, 0}, {0, 32767, 32767},
		// The greatest, where the likely one may be above it.
		{1 << 62, 0, 1 << 62}, {1 << 62, 1, 1<<62 + 1}, {1 << 62, 65535, 1<<62 - 1},
		{1 << 62, 32767, 1<<62 + 32767}, {1 << 62, 32768, 1<<62 - 32768}, {1 << 62, 32769, 1<<62 - 32767},
	} {
		if got, e := Likely(c.last, c.s); got != c.want || e != api.OK {
			t.Errorf("Likely(%d, %d): %d, %v, want %d", c.last, c.s, got, e, c.want)
		}
	}
}

func TestP3_1_LikelyAboutTheMultiples(t *testing.T) {
	for _, base := range []int{0, 1 << 31, 1 << 32, 1<<62 - 1<<17, 1 << 62} {
		for i := -6; i <= 6; i++ {
			for off := -3; off <= 3; off++ {
				last := base + i*32768 + off
				if last < 0 || last > 1<<62 {
					continue
				}
				for _, s := range edges() {
					want := likelyByWords(last, s)
					if got, e := Likely(last, s); got != want || e != api.OK {
						t.Errorf("Likely(%d, %d): %d, %v, want %d", last, s, got, e, want)
					}
				}
			}
		}
	}
}

func TestP3_1_LikelyRefusesWhatIsOutOfRange(t *testing.T) {
	for _, last := range []int{-1, -2, -32768, -65536, math.MinInt + 1, math.MinInt, 1<<62 + 1, 1<<62 + 65536, math.MaxInt - 1, math.MaxInt} {
		for _, s := range edges() {
			if got, e := Likely(last, s); got != 0 || e != api.ErrRange {
				t.Errorf("Likely(%d, %d): %d, %v", last, s, got, e)
			}
		}
	}
}

func TestP3_1_OrderFromLoOn(t *testing.T) {
	for _, c := range []struct {
		l    []uint16
		lo   uint16
		want []uint16
	}{
		{[]uint16{1, 65535, 0, 1}, 65535, []uint16{65535, 0, 1}},
		{[]uint16{1, 65535, 0, 1}, 0, []uint16{0, 1, 65535}},
		{[]uint16{5, 5, 5}, 5, []uint16{5}},
		{[]uint16{5, 5, 5}, 6, []uint16{5}},
		{[]uint16{4, 5, 6}, 5, []uint16{5, 6, 4}},
		{[]uint16{40000, 32768, 32767, 0}, 0, []uint16{0, 32767, 32768, 40000}},
		{[]uint16{9, 10, 11, 32777, 32778}, 10, []uint16{10, 11, 32777, 32778, 9}},
	} {
		if got := Order(c.l, c.lo); !slices.Equal(got, c.want) {
			t.Errorf("Order(%v, %d): %v, want %v", c.l, c.lo, got, c.want)
		}
	}
}

func TestP3_1_OrderOfAnEmptyList(t *testing.T) {
	for _, lo := range edges() {
		if got := Order(nil, lo); len(got) != 0 {
			t.Errorf("Order(nil, %d): %v", lo, got)
		}
		if got := Order([]uint16{}, lo); len(got) != 0 {
			t.Errorf("Order(empty, %d): %v", lo, got)
		}
	}
}

func TestP3_1_OrderByWords(t *testing.T) {
	l := append(edges(), edges()...)
	slices.Reverse(l[:len(l)/2])
	for _, lo := range append(edges(), 77, 40000) {
		if got, want := Order(l, lo), orderByWords(l, lo); !slices.Equal(got, want) {
			t.Errorf("Order(%v, %d): %v, want %v", l, lo, got, want)
		}
	}
}

func TestP3_1_OrderOfAllNumbers(t *testing.T) {
	var l []uint16
	for i := range 3 * whole {
		// 40503 has no divisor in common with 65536: each number comes three times.
		l = append(l, uint16(i*40503))
	}
	for _, lo := range edges() {
		got := Order(l, lo)
		if len(got) != whole {
			t.Fatalf("Order of all from %d: %d numbers", lo, len(got))
		}
		for i, s := range got {
			if int(s) != mod(int(lo)+i) {
				t.Fatalf("Order of all from %d: %d at %d", lo, s, i)
			}
		}
	}
}

func TestP3_2_NearNumbersKeepTheirDistance(t *testing.T) {
	for _, base := range []int{0, 32768, 65536, 98304, 1 << 40, 1<<62 - 32768} {
		for d := -32767; d <= 32767; d++ {
			a, b := base, base+d
			if b < 0 {
				continue
			}
			if got := Dist(uint16(a), uint16(b)); got != d {
				t.Fatalf("from %d to %d: %d", a, b, got)
			}
			if got := Dist(uint16(b), uint16(a)); got != -d {
				t.Fatalf("from %d to %d: %d", b, a, got)
			}
		}
	}
}

func TestP3_2_ANumberIsFoundAgain(t *testing.T) {
	for _, last := range []int{0, 1, 32766, 32767, 32768, 32769, 65535, 65536, 65537, 98303, 98304, 98305, 1 << 40, 1<<62 - 1, 1 << 62} {
		for d := -32767; d <= 32767; d++ {
			n := last + d
			if n < 0 {
				continue
			}
			if got, e := Likely(last, uint16(n)); got != n || e != api.OK {
				t.Fatalf("beside %d: %d is found as %d, %v", last, n, got, e)
			}
		}
	}
}

func TestP3_3_OrderLeavesWhatItIsGiven(t *testing.T) {
	room := []uint16{9, 3, 65535, 3, 0, 7, 8, 9}
	was := slices.Clone(room)
	got := Order(room[:5], 3)
	if !slices.Equal(room, was) {
		t.Fatalf("Order changed its argument: %v", room)
	}
	got = got[:cap(got)]
	for i := range got {
		got[i] = 4444
	}
	if !slices.Equal(room, was) {
		t.Fatalf("the answer shares memory with the argument: %v", room)
	}
}

func TestP3_3_OrderAnswersNewMemoryWhereNothingIsToBeDone(t *testing.T) {
	for n := range 4 {
		room := []uint16{1, 2, 3, 4}
		got := Order(room[:n], 1)
		got = got[:cap(got)]
		for i := range got {
			got[i] = 4444
		}
		if !slices.Equal(room, []uint16{1, 2, 3, 4}) {
			t.Errorf("the answer shares memory with the argument: %v", room)
		}
		if again := Order(room[:n], 1); !slices.Equal(again, room[:n]) {
			t.Errorf("Order(%v, 1): %v", room[:n], again)
		}
	}
}
