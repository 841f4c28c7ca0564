package crc

import (
	"bytes"
	"math"
	"math/bits"
	"slices"
	"testing"

	"stillage/api"
)

// stepByWords follows the chapter's words bit by bit, apart from the package's own inner functions.
func stepByWords(c uint16, b byte) uint16 {
	wide := uint32(c) ^ uint32(b)*256
	for i := 0; i < 8; i++ {
		wide *= 2
		if wide >= 0x10000 {
			wide = wide - 0x10000 ^ 0x1021
		}
	}
	return uint16(wide)
}

func sumByWords(b []byte) uint16 {
	c := uint16(0xFFFF)
	for _, v := range b {
		c = stepByWords(c, v)
	}
	return c
}

func rollByWords(c uint16, n int) uint16 {
	for i := 0; i < n; i++ {
		c = stepByWords(c, 0)
	}
	return c
}

// mixed answers n bytes of all kinds, the same ones for the same seed.
func mixed(n int, seed uint32) []byte {
	b := make([]byte, n)
	for i := range b {
		seed = seed*1664525 + 1013904223
		b[i] = byte(seed >> 24)
	}
	return b
}

func withTurned(b []byte, places ...int) []byte {
	c := bytes.Clone(b)
	for _, at := range places {
		c[at/8] ^= 0x80 >> (at % 8)
	}
	return c
}

func wantFind(t *testing.T, b []byte, sum uint16, place int, errno api.Errno) {
	t.Helper()
	if at, e := Find(b, sum); at != place || e != errno {
		t.Errorf("Find(%d bytes, %04X): %d, %d, want %d, %d", len(b), sum, at, e, place, errno)
	}
}

func TestP1_1_StepByWords(t *testing.T) {
	for c := range 0x10000 {
		for b := range 256 {
			if c%257 != 0 && b != 0 && b != 1 && b != 0x80 && b != 0xFF {
				continue
			}
			if got, want := Step(uint16(c), byte(b)), stepByWords(uint16(c), byte(b)); got != want {
				t.Fatalf("Step(%04X, %02X): %04X, want %04X", c, b, got, want)
			}
		}
	}
}

func TestP1_1_StepKnown(t *testing.T) {
	for _, k := range []struct {
		c    uint16
		b    byte
		want uint16
	}{{0, 0, 0}, {0, 1, 0x1021}, {1, 0, 0x100}, {0x100, 0, 0x1021}, {0x100, 1, 0}, {0xFFFF, 0, 0xE1F0}, {0xFFFF, 'A', 0xB915}} {
		if got := Step(k.c, k.b); got != k.want {
			t.Errorf("Step(%04X, %02X): %04X, want %04X", k.c, k.b, got, k.want)
		}
	}
}

func TestP1_1_SumKnown(t *testing.T) {
	for _, k := range []struct {
		b    []byte
		want uint16
	}{{nil, 0xFFFF}, {[]byte{}, 0xFFFF}, {[]byte{0}, 0xE1F0}, {[]byte("A"), 0xB915}, {[]byte("123456789"), 0x29B1}} {
		if got := Sum(k.b); got != k.want {
			t.Errorf("Sum(%q): %04X, want %04X", k.b, got, k.want)
		}
	}
}

func TestP1_1_SumByWords(t *testing.T) {
	for _, n := range []int{1, 2, 3, 16, 255, 256, 3999, 4000, 4001, 70000} {
		b := mixed(n, uint32(n))
		if got, want := Sum(b), sumByWords(b); got != want {
			t.Errorf("Sum of %d bytes: %04X, want %04X", n, got, want)
		}
	}
}

func TestP1_1_RollBySteps(t *testing.T) {
	for _, c := range []uint16{0, 1, 2, 0x100, 0x1021, 0x8000, 0x29B1, 0xFFFF} {
		want := c
		for n := range 40000 {
			if got, e := Roll(c, n); got != want || e != api.OK {
				t.Fatalf("Roll(%04X, %d): %04X, %d, want %04X", c, n, got, e, want)
			}
			want = stepByWords(want, 0)
		}
	}
}

func TestP1_1_RollKnown(t *testing.T) {
	for _, k := range []struct {
		c    uint16
		n    int
		want uint16
	}{{1, 1, 0x100}, {0x100, 1, 0x1021}, {1, 2, 0x1021}, {5, 0, 5}, {0xFFFF, 0, 0xFFFF}, {0, 1 << 40, 0}} {
		if got, e := Roll(k.c, k.n); got != k.want || e != api.OK {
			t.Errorf("Roll(%04X, %d): %04X, %d, want %04X", k.c, k.n, got, e, k.want)
		}
	}
}

// Rolls come round after 2^15 - 1 bytes, so that a far one is the same as a near one that can be stepped.
func TestP1_1_RollFar(t *testing.T) {
	for _, n := range []int{1<<40 - 1000, 1<<40 - 1, 1 << 40, 1 << 39, 1<<32 + 1, 1 << 32, 1<<31 - 1, 999999999999} {
		for _, c := range []uint16{0, 1, 0x1021, 0x8001, 0xFFFF} {
			want := rollByWords(c, n%(1<<15-1))
			if got, e := Roll(c, n); got != want || e != api.OK {
				t.Errorf("Roll(%04X, %d): %04X, %d, want %04X", c, n, got, e, want)
			}
		}
	}
}

func TestP1_1_RollAndJoinOutOfRange(t *testing.T) {
	for _, n := range []int{-1, -2, -1 << 40, math.MinInt, 1<<40 + 1, 1 << 41, math.MaxInt} {
		for _, c := range []uint16{0, 1, 0xFFFF} {
			if got, e := Roll(c, n); got != 0 || e != api.ErrRange {
				t.Errorf("Roll(%04X, %d): %04X, %d, want 0, ErrRange", c, n, got, e)
			}
			if got, e := Join(c, 0x29B1, n); got != 0 || e != api.ErrRange {
				t.Errorf("Join(%04X, 29B1, %d): %04X, %d, want 0, ErrRange", c, n, got, e)
			}
		}
	}
}

func TestP1_1_JoinEveryCut(t *testing.T) {
	for _, n := range []int{0, 1, 2, 9, 300} {
		b := mixed(n, 7)
		want := sumByWords(b)
		for cut := range n + 1 {
			if got, e := Join(Sum(b[:cut]), Sum(b[cut:]), n-cut); got != want || e != api.OK {
				t.Errorf("Join of %d and %d bytes: %04X, %d, want %04X", cut, n-cut, got, e, want)
			}
		}
	}
}

func TestP1_1_JoinLong(t *testing.T) {
	first, second := mixed(4000, 1), mixed(4000, 2)
	want := sumByWords(append(bytes.Clone(first), second...))
	if got, e := Join(Sum(first), Sum(second), 4000); got != want || e != api.OK {
		t.Errorf("Join of twice 4000 bytes: %04X, %d, want %04X", got, e, want)
	}
}

// A list of 2^40 bytes 0 can't be held, but its sum is known: FFFF rolled, and 2^40 is 1024 on the round of 2^15 - 1.
func TestP1_1_JoinFar(t *testing.T) {
	second := rollByWords(0xFFFF, 1024)
	for _, first := range [][]byte{nil, {0}, []byte("123456789"), mixed(4000, 3)} {
		a := sumByWords(first)
		if got, e := Join(a, second, 1<<40); got != rollByWords(a, 1024) || e != api.OK {
			t.Errorf("Join of %d and 2^40 bytes: %04X, %d, want %04X", len(first), got, e, rollByWords(a, 1024))
		}
	}
}

func TestP1_1_FindNothingTurned(t *testing.T) {
	for _, n := range []int{0, 1, 2, 9, 3999, 4000} {
		b := mixed(n, 11)
		wantFind(t, b, sumByWords(b), -1, api.OK)
	}
	wantFind(t, nil, 0xFFFF, -1, api.OK)
}

func TestP1_1_FindEveryBit(t *testing.T) {
	for _, n := range []int{1, 2, 3, 9, 64} {
		b := mixed(n, 13)
		for at := range 8 * n {
			wantFind(t, withTurned(b, at), sumByWords(b), at, api.OK)
		}
	}
}

func TestP1_1_FindInLongList(t *testing.T) {
	b := mixed(4000, 17)
	sum := sumByWords(b)
	for at := range 8 * len(b) {
		if at < 16 || at >= 8*len(b)-16 || at%41 == 0 {
			wantFind(t, withTurned(b, at), sum, at, api.OK)
		}
	}
}

func TestP1_1_FindNone(t *testing.T) {
	for _, sum := range []uint16{0, 1, 0xFFFE, 0xEFDE, 0x29B1} {
		wantFind(t, nil, sum, -1, api.ErrNone)
	}
	for _, n := range []int{1, 2, 9, 4000} {
		b := mixed(n, 19)
		sum, last := sumByWords(b), 8*n-1
		for _, places := range [][]int{{0, 1}, {0, last}, {last - 1, last}, {3, 5}, {0, 1, 2, last}} {
			wantFind(t, withTurned(b, places...), sum, -1, api.ErrNone)
		}
	}
}

// Of all sums there are, only the list's own and those of its turned bits are explained.
func TestP1_1_FindEverySum(t *testing.T) {
	for _, b := range [][]byte{{0}, {0x80}, {0xFF}, {1, 2}} {
		want := map[uint16]int{sumByWords(b): -1}
		for at := range 8 * len(b) {
			want[sumByWords(withTurned(b, at))] = at
		}
		for sum := range 0x10000 {
			if at, ok := want[uint16(sum)]; ok {
				wantFind(t, b, uint16(sum), at, api.OK)
			} else {
				wantFind(t, b, uint16(sum), -1, api.ErrNone)
			}
		}
	}
}

func TestP1_1_FindTooLong(t *testing.T) {
	for _, n := range []int{4001, 4096, 70000} {
		b := mixed(n, 23)
		sum := sumByWords(b)
		wantFind(t, b, sum, 0, api.ErrRange)
		wantFind(t, b, sum^1, 0, api.ErrRange)
		wantFind(t, withTurned(b, 8*n-1), sum, 0, api.ErrRange)
	}
}

func TestP1_2_FewBitsTurnedInShortList(t *testing.T) {
	b := mixed(5, 29)
	sum := Sum(b)
	for i := range 40 {
		for j := range i + 1 {
			for k := range j + 1 {
				// Equal places stand for fewer bits, so that one and two turned bits are tried as well as three.
				places := slices.Compact([]int{i, j, k})
				if Sum(withTurned(b, places...)) == sum {
					t.Fatalf("the bits %v turned leave the sum", places)
				}
			}
		}
	}
}

// What a turned bit changes is different for each place of 4000 bytes (so no two bits leave the sum), and always an
// odd number of bits of it (so no odd number of turned bits, one and three among them, leaves it either).
func TestP1_2_EveryBitOfLongListChangesSumItsOwnWay(t *testing.T) {
	b := make([]byte, 4000)
	sum := Sum(b)
	seen := make(map[uint16]int)
	for at := range 8 * len(b) {
		b[at/8] = 0x80 >> (at % 8)
		change := Sum(b) ^ sum
		b[at/8] = 0
		if bits.OnesCount16(change)%2 == 0 {
			t.Fatalf("the bit %d changes the sum by %04X, an even number of bits", at, change)
		}
		if other, ok := seen[change]; ok {
			t.Fatalf("the bits %d and %d change the sum alike", other, at)
		}
		seen[change] = at
	}
}

func TestP1_2_OddNumberOfBitsTurned(t *testing.T) {
	for _, n := range []int{1, 2, 40, 4000} {
		b := mixed(n, 31)
		for seed := range uint32(200) {
			noise := mixed(n, seed)
			ones := 0
			for _, v := range noise {
				ones += bits.OnesCount8(v)
			}
			if ones%2 == 0 {
				noise[0] ^= 1
			}
			for i, v := range b {
				noise[i] ^= v
			}
			if Sum(noise) == Sum(b) {
				t.Fatalf("%d bytes, seed %d: an odd number of turned bits leaves the sum", n, seed)
			}
		}
	}
}

func TestP1_3_HandedInStays(t *testing.T) {
	for _, n := range []int{0, 1, 9, 4000, 4001} {
		room := mixed(n+16, 37)
		was := bytes.Clone(room)
		b := room[8 : 8+n : n+12]
		sum := Sum(b)
		for _, s := range []uint16{sum, sum ^ 0x1021, sum ^ 3, 0} {
			at, e := Find(b, s)
			if again, f := Find(b, s); again != at || f != e {
				t.Errorf("Find of %d bytes answers %d, %d, then %d, %d", n, at, e, again, f)
			}
		}
		if Sum(b) != sum {
			t.Errorf("Sum of %d bytes answers otherwise the second time", n)
		}
		if !bytes.Equal(room, was) {
			t.Errorf("the list of %d bytes, or the room beside it, was changed", n)
		}
	}
}
