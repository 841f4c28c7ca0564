package pair

import (
	"fmt"
	"math"
	"math/rand"
	"slices"
	"testing"
	"unsafe"

	"stillage/api"
)

// The slow forms, as the chapter's words have it, and apart from the program.

var home = Spot{0, 0}

func driveByWords(a, b Spot) int {
	x, y := a.X-b.X, a.Y-b.Y
	if x < 0 {
		x = -x
	}
	if y < 0 {
		y = -y
	}
	if x > y {
		return x
	}
	return y
}

func isSpot(s Spot) bool {
	return 0 <= s.X && s.X <= 1000 && 0 <= s.Y && s.Y <= 1000
}

func spotsByWords(stores, gets []Spot) api.Errno {
	if len(stores) > 6 || len(gets) > 6 {
		return api.ErrRange
	}
	for _, s := range slices.Concat(stores, gets) {
		if !isSpot(s) {
			return api.ErrRange
		}
	}
	return api.OK
}

// tour is the drive from home over these spots and home again.
func tour(over ...Spot) int {
	sum, at := 0, home
	for _, s := range append(slices.Clone(over), home) {
		sum += driveByWords(at, s)
		at = s
	}
	return sum
}

func costByWords(stores, gets []Spot, pairs []int) (int, api.Errno) {
	if e := spotsByWords(stores, gets); e != api.OK {
		return 0, e
	}
	if len(pairs) != len(stores) {
		return 0, api.ErrRange
	}
	times := make([]int, len(gets))
	for _, p := range pairs {
		if p != -1 && (p < 0 || p >= len(gets)) {
			return 0, api.ErrRange
		}
		if p != -1 {
			times[p]++
		}
	}
	sum := 0
	for g, n := range times {
		if n > 1 {
			return 0, api.ErrTwice
		}
		if n == 0 {
			sum += tour(gets[g])
		}
	}
	for s, p := range pairs {
		if p == -1 {
			sum += tour(stores[s])
		} else {
			sum += tour(stores[s], gets[p])
		}
	}
	return sum, api.OK
}

// pairings are all that there are, the least first.
func pairings(stores, gets int) [][]int {
	if stores == 0 {
		return [][]int{{}}
	}
	var all [][]int
	for _, ahead := range pairings(stores-1, gets) {
		for p := -1; p < gets; p++ {
			if p == -1 || !slices.Contains(ahead, p) {
				all = append(all, append(slices.Clone(ahead), p))
			}
		}
	}
	return all
}

func bestByWords(stores, gets []Spot) ([]int, int, api.Errno) {
	if e := spotsByWords(stores, gets); e != api.OK {
		return nil, 0, e
	}
	var best []int
	least := math.MaxInt
	for _, pairs := range pairings(len(stores), len(gets)) {
		if n, _ := costByWords(stores, gets, pairs); n < least {
			best, least = pairs, n
		}
	}
	return best, least, api.OK
}

// at is the list of spots with these X and Y in turn.
func at(l ...int) []Spot {
	var spots []Spot
	for i := 0; i < len(l); i += 2 {
		spots = append(spots, Spot{l[i], l[i+1]})
	}
	return spots
}

// like is so many times the same spot.
func like(s Spot, times int) []Spot { return slices.Repeat([]Spot{s}, times) }

// ints is so many times the same number.
func ints(n, times int) []int { return slices.Repeat([]int{n}, times) }

// outside are numbers that are neither an X nor a Y nor a place.
func outside() []int {
	return []int{-2, -3, -1000, 1001, 1002, 1 << 16, 1 << 31, 1 << 32, 1<<32 + 1, math.MinInt, math.MinInt + 1, math.MaxInt - 1, math.MaxInt}
}

// someSpots are up to so many spots with X and Y up to far.
func someSpots(r *rand.Rand, count, far int) []Spot {
	var spots []Spot
	for range count {
		spots = append(spots, Spot{r.Intn(far + 1), r.Intn(far + 1)})
	}
	return spots
}

func sameCost(t testing.TB, stores, gets []Spot, pairs []int) (int, api.Errno) {
	t.Helper()
	got, e := Cost(stores, gets, pairs)
	want, we := costByWords(stores, gets, pairs)
	if got != want || e != we {
		t.Fatalf("Cost(%v, %v, %v): %d, %d, not %d, %d", stores, gets, pairs, got, e, want, we)
	}
	return got, e
}

func sameBest(t testing.TB, stores, gets []Spot) ([]int, int, api.Errno) {
	t.Helper()
	got, n, e := Best(stores, gets)
	want, wn, we := bestByWords(stores, gets)
	if !slices.Equal(got, want) || n != wn || e != we {
		t.Fatalf("Best(%v, %v): %v, %d, %d, not %v, %d, %d", stores, gets, got, n, e, want, wn, we)
	}
	return got, n, e
}

func wantCost(t testing.TB, stores, gets []Spot, pairs []int, n int) {
	t.Helper()
	if got, e := sameCost(t, stores, gets, pairs); got != n || e != api.OK {
		t.Fatalf("Cost(%v, %v, %v): %d, %d, not %d", stores, gets, pairs, got, e, n)
	}
}

func wantBest(t testing.TB, stores, gets []Spot, n int, pairs ...int) {
	t.Helper()
	got, gn, e := sameBest(t, stores, gets)
	if !slices.Equal(got, pairs) || gn != n || e != api.OK {
		t.Fatalf("Best(%v, %v): %v, %d, %d, not %v, %d", stores, gets, got, gn, e, pairs, n)
	}
}

func refusedCost(t testing.TB, stores, gets []Spot, pairs []int, want api.Errno) {
	t.Helper()
	if n, e := sameCost(t, stores, gets, pairs); n != 0 || e != want {
		t.Fatalf("Cost(%v, %v, %v): %d, %d, not %d alone", stores, gets, pairs, n, e, want)
	}
}

func refusedBest(t testing.TB, stores, gets []Spot) {
	t.Helper()
	if l, n, e := sameBest(t, stores, gets); len(l) > 0 || n != 0 || e != api.ErrRange {
		t.Fatalf("Best(%v, %v): %v, %d, %d, not ErrRange alone", stores, gets, l, n, e)
	}
}

func TestP13_1_DriveNearAndFar(t *testing.T) {
	for _, c := range []struct{ ax, ay, bx, by, n int }{
		{0, 0, 0, 0, 0}, {5, 7, 5, 7, 0}, {1000, 1000, 1000, 1000, 0},
		{0, 0, 1, 0, 1}, {0, 0, 0, 1, 1}, {0, 0, 1, 1, 1}, {3, 4, 4, 3, 1},
		{0, 0, 3, 1, 3}, {0, 0, 1, 3, 3}, {9, 9, 8, 9, 1}, {2, 9, 7, 1, 8}, {2, 1, 7, 9, 8},
		{0, 1000, 1000, 0, 1000}, {0, 0, 1000, 1000, 1000}, {0, 0, 1000, 999, 1000}, {0, 0, 999, 1000, 1000},
		{10, 500, 20, 100, 400}, {500, 10, 100, 20, 400},
		{-3, 0, 4, 0, 7}, {-3, -5, -4, 2, 7}, {0, -1, 0, -9, 8}, {-1000, 1000, 1000, -1000, 2000},
	} {
		a, b := Spot{c.ax, c.ay}, Spot{c.bx, c.by}
		if n, back := Drive(a, b), Drive(b, a); n != c.n || back != c.n {
			t.Errorf("Drive(%v, %v): %d, back %d, not %d", a, b, n, back, c.n)
		}
	}
}

func TestP13_1_DriveBetweenAllOfASmallSquare(t *testing.T) {
	for i := range 7 * 7 * 7 * 7 {
		a, b := Spot{i%7 - 3, i/7%7 - 3}, Spot{i/49%7 - 3, i/343%7 - 3}
		if n, want := Drive(a, b), driveByWords(a, b); n != want {
			t.Fatalf("Drive(%v, %v): %d, not %d", a, b, n, want)
		}
	}
}

func TestP13_1_DriveOfGreatSpots(t *testing.T) {
	const top = 1<<31 - 1
	for _, c := range []struct{ ax, ay, bx, by, n int }{
		{top, top, top, top, 0}, {-top, -top, -top, -top, 0}, {top, -top, top, -top, 0},
		{0, 0, top, 0, top}, {0, 0, 0, top, top}, {0, 0, -top, 0, top}, {0, 0, 0, -top, top},
		{-top, 0, top, 0, 2 * top}, {0, -top, 0, top, 2 * top}, {-top, -top, top, top, 2 * top}, {-top, top, top, -top, 2 * top},
		{top, 0, top - 1, 0, 1}, {0, -top, 0, -top + 1, 1}, {top, 5, top - 1, 7, 2}, {-top, top, -top, top - 9, 9},
		{-top, 0, top - 1, 0, 2*top - 1}, {0, top - 1, 0, -top, 2*top - 1},
	} {
		a, b := Spot{c.ax, c.ay}, Spot{c.bx, c.by}
		if n, back := Drive(a, b), Drive(b, a); n != c.n || back != c.n {
			t.Errorf("Drive(%v, %v): %d, back %d, not %d", a, b, n, back, c.n)
		}
	}
	r := rand.New(rand.NewSource(1))
	some := func() int { return int(r.Int63n(2*top+1)) - top }
	for range 20000 {
		a, b := Spot{some(), some()}, Spot{some(), some()}
		if n, want := Drive(a, b), driveByWords(a, b); n != want {
			t.Fatalf("Drive(%v, %v): %d, not %d", a, b, n, want)
		}
	}
}

func TestP13_1_Example(t *testing.T) {
	stores, gets := at(3, 1, 9, 9), at(8, 9)
	wantBest(t, stores, gets, 25, -1, 0)
	wantCost(t, stores, gets, []int{-1, 0}, 25)
	wantCost(t, stores, gets, []int{0, -1}, 3+8+9+18)
	wantCost(t, stores, gets, []int{-1, -1}, 6+18+18)
}

func TestP13_1_CostOfPairsAndOfThoseAlone(t *testing.T) {
	stores, gets := at(5, 0, 0, 5), at(0, 5, 5, 0)
	wantCost(t, stores, gets, []int{-1, -1}, 40)
	wantCost(t, stores, gets, []int{0, -1}, 5+5+5+10+10)
	wantCost(t, stores, gets, []int{-1, 0}, 10+10+10)
	wantCost(t, stores, gets, []int{1, 0}, 20)
	wantCost(t, stores, gets, []int{0, 1}, 30)
	// A retrieval whose place is ahead or behind is alone, each of them once.
	gets = at(1, 0, 2, 0, 4, 0)
	wantCost(t, at(8, 3), gets, []int{-1}, 16+2+4+8)
	wantCost(t, at(8, 3), gets, []int{0}, 8+7+1+4+8)
	wantCost(t, at(8, 3), gets, []int{1}, 8+6+2+2+8)
	wantCost(t, at(8, 3), gets, []int{2}, 8+4+4+2+4)
	// The way is by Y where Y is farther.
	wantCost(t, at(2, 900), at(700, 100), []int{0}, 900+800+700)
	wantCost(t, at(2, 900), at(700, 100), []int{-1}, 1800+1400)
}

func TestP13_1_CostWhereThereIsNothing(t *testing.T) {
	wantCost(t, nil, nil, nil, 0)
	wantCost(t, []Spot{}, []Spot{}, []int{}, 0)
	wantCost(t, nil, []Spot{}, []int{}, 0)
	wantCost(t, nil, at(7, 2), nil, 14)
	wantCost(t, nil, at(7, 2, 1, 9), []int{}, 32)
	wantCost(t, at(7, 2), nil, []int{-1}, 14)
	wantCost(t, at(7, 2, 1, 9), []Spot{}, []int{-1, -1}, 32)
	refusedCost(t, at(7, 2), nil, []int{0}, api.ErrRange)
	refusedCost(t, nil, nil, []int{-1}, api.ErrRange)
	refusedCost(t, nil, at(7, 2), []int{0}, api.ErrRange)
}

func TestP13_1_CostOfTheMost(t *testing.T) {
	corner := Spot{1000, 1000}
	wantCost(t, like(corner, 6), like(corner, 6), ints(-1, 6), 24000)
	wantCost(t, like(corner, 6), like(corner, 6), []int{5, 4, 3, 2, 1, 0}, 12000)
	wantCost(t, like(Spot{0, 1000}, 6), like(Spot{1000, 0}, 6), []int{0, 1, 2, 3, 4, 5}, 18000)
	wantCost(t, like(corner, 6), like(home, 6), []int{5, -1, 3, -1, 1, 0}, 12000)
	wantCost(t, like(home, 6), like(home, 6), []int{5, -1, 3, -1, 1, 0}, 0)
}

func TestP13_1_CostOfEveryPairing(t *testing.T) {
	r := rand.New(rand.NewSource(2))
	for stores := range 7 {
		for gets := range 7 {
			for _, far := range []int{3, 1000} {
				s, g := someSpots(r, stores, far), someSpots(r, gets, far)
				for _, pairs := range pairings(stores, gets) {
					if _, e := sameCost(t, s, g, pairs); e != api.OK {
						t.Fatalf("Cost(%v, %v, %v): %d", s, g, pairs, e)
					}
				}
			}
		}
	}
}

// Every list of places of up to three stores, of those that are none too.
func TestP13_1_CostOfEveryListOfPlaces(t *testing.T) {
	r := rand.New(rand.NewSource(3))
	seen := map[api.Errno]int{}
	for stores := range 4 {
		for gets := range 4 {
			s, g := someSpots(r, stores, 20), someSpots(r, gets, 20)
			for count := range 5 {
				for code := range pow(gets+4, count) {
					var pairs []int
					for range count {
						pairs = append(pairs, code%(gets+4)-2)
						code /= gets + 4
					}
					_, e := sameCost(t, s, g, pairs)
					seen[e]++
				}
			}
		}
	}
	if len(seen) != 3 || seen[api.OK] == 0 || seen[api.ErrRange] == 0 || seen[api.ErrTwice] == 0 {
		t.Fatalf("answers: %v", seen)
	}
}

func pow(n, times int) int {
	product := 1
	for range times {
		product *= n
	}
	return product
}

func TestP13_1_TooMany(t *testing.T) {
	for _, count := range []int{7, 8, 12, 13, 64, 65, 256, 262} {
		for _, spot := range []Spot{home, {1, 1}, {1000, 1000}, {1001, 0}} {
			many := like(spot, count)
			for other := range 8 {
				few := like(Spot{4, 4}, other)
				refusedBest(t, many, few)
				refusedBest(t, few, many)
				refusedCost(t, many, few, ints(-1, count), api.ErrRange)
				refusedCost(t, few, many, ints(-1, other), api.ErrRange)
			}
			refusedBest(t, many, many)
			refusedCost(t, many, many, ints(-1, count), api.ErrRange)
			refusedCost(t, many, many, ints(0, count), api.ErrRange)
		}
	}
}

func TestP13_1_SpotsOutside(t *testing.T) {
	for _, n := range append(outside(), -1) {
		for _, bad := range []Spot{{n, 0}, {0, n}, {n, 1000}, {1000, n}, {n, n}} {
			for count := 1; count <= 6; count++ {
				for place := range count {
					spots := like(Spot{2, 3}, count)
					spots[place] = bad
					for _, others := range [][]Spot{nil, at(1, 1), like(Spot{1, 9}, 6), {bad}} {
						refusedBest(t, spots, others)
						refusedBest(t, others, spots)
						refusedCost(t, spots, others, ints(-1, count), api.ErrRange)
						refusedCost(t, others, spots, ints(-1, len(others)), api.ErrRange)
					}
				}
			}
		}
	}
}

func TestP13_1_SpotsAtTheEdges(t *testing.T) {
	edges := []int{0, 1, 999, 1000}
	for _, x := range edges {
		for _, y := range edges {
			s := Spot{x, y}
			n := 2 * max(x, y)
			wantBest(t, []Spot{s}, nil, n, -1)
			wantBest(t, nil, []Spot{s}, n)
			wantCost(t, []Spot{s}, nil, []int{-1}, n)
			wantCost(t, nil, []Spot{s}, nil, n)
			wantCost(t, []Spot{s}, []Spot{s}, []int{-1}, 2*n)
			wantCost(t, []Spot{s}, []Spot{s}, []int{0}, n)
			if s == home {
				wantBest(t, []Spot{s}, []Spot{s}, 0, -1)
			} else {
				wantBest(t, []Spot{s}, []Spot{s}, n, 0)
			}
			for _, x := range edges {
				for _, y := range edges {
					sameBest(t, []Spot{s}, at(x, y))
					sameBest(t, []Spot{s, {x, y}}, at(y, x))
				}
			}
		}
	}
}

func TestP13_1_NotAsManyPairsAsStores(t *testing.T) {
	for stores := range 7 {
		for gets := range 7 {
			s, g := like(Spot{5, 6}, stores), like(Spot{7, 1}, gets)
			for count := range 9 {
				if count != stores {
					refusedCost(t, s, g, ints(-1, count), api.ErrRange)
				}
			}
			refusedCost(t, s, g, ints(-1, stores+256), api.ErrRange)
			// Also where one is paired twice.
			refusedCost(t, s, g, ints(0, stores+2), api.ErrRange)
		}
	}
}

func TestP13_1_PairsOutside(t *testing.T) {
	for stores := 1; stores <= 6; stores++ {
		for gets := range 7 {
			s, g := like(Spot{5, 6}, stores), like(Spot{7, 1}, gets)
			for _, n := range append(outside(), gets, gets+1, 6, 7) {
				for place := range stores {
					pairs := ints(-1, stores)
					pairs[place] = n
					if n >= gets || n < 0 {
						refusedCost(t, s, g, pairs, api.ErrRange)
					}
				}
			}
		}
	}
}

func TestP13_1_PairedTwice(t *testing.T) {
	for stores := 2; stores <= 6; stores++ {
		for gets := 1; gets <= 6; gets++ {
			s, g := like(Spot{5, 6}, stores), like(Spot{7, 1}, gets)
			for get := range gets {
				for first := range stores {
					for second := range first {
						pairs := ints(-1, stores)
						pairs[first], pairs[second] = get, get
						refusedCost(t, s, g, pairs, api.ErrTwice)
					}
				}
				refusedCost(t, s, g, ints(get, stores), api.ErrTwice)
			}
		}
	}
	refusedCost(t, like(home, 3), like(home, 2), []int{0, 1, 0}, api.ErrTwice)
	refusedCost(t, like(home, 4), like(home, 3), []int{0, 1, 2, 2}, api.ErrTwice)
	// Alone there may be many.
	wantCost(t, at(1, 0, 2, 0, 3, 0), at(1, 0), []int{-1, 0, -1}, 2+4+6)
}

func TestP13_1_OutsideAheadOfTwice(t *testing.T) {
	s, g := like(Spot{5, 6}, 3), like(Spot{7, 1}, 2)
	for _, n := range append(outside(), 2, 3) {
		for _, pairs := range [][]int{{0, 0, n}, {0, n, 0}, {n, 0, 0}, {1, 1, n}, {n, n, n}, {n, n, 0}} {
			refusedCost(t, s, g, pairs, api.ErrRange)
		}
	}
	refusedCost(t, append(s, Spot{1001, 0}), g, []int{0, 0, 1, 1}, api.ErrRange)
	refusedCost(t, s, append(g, Spot{0, -1}), []int{0, 0, 1}, api.ErrRange)
	refusedCost(t, s, g, []int{0, 0}, api.ErrRange)
	refusedCost(t, s, g, []int{0, 0, 1, 1}, api.ErrRange)
	refusedCost(t, like(home, 7), g, []int{0, 0, 0, 0, 0, 0, 0}, api.ErrRange)
	refusedCost(t, s, like(home, 7), []int{0, 0, 0}, api.ErrRange)
}

func TestP13_1_BestWhereThereIsNothing(t *testing.T) {
	wantBest(t, nil, nil, 0)
	wantBest(t, []Spot{}, []Spot{}, 0)
	for count := 1; count <= 6; count++ {
		wantBest(t, like(Spot{4, 9}, count), nil, 18*count, ints(-1, count)...)
		wantBest(t, like(Spot{4, 9}, count), []Spot{}, 18*count, ints(-1, count)...)
		wantBest(t, nil, like(Spot{9, 4}, count), 18*count)
		wantBest(t, []Spot{}, like(Spot{9, 4}, count), 18*count)
	}
}

func TestP13_1_BestOfEqualSpots(t *testing.T) {
	places := []int{0, 1, 2, 3, 4, 5}
	for stores := range 7 {
		for gets := range 7 {
			// As many pairs as there can be; the first stores stay alone, and the least retrievals are taken.
			few := min(stores, gets)
			pairs := append(ints(-1, stores-few), places[:few]...)
			wantBest(t, like(Spot{4, 4}, stores), like(Spot{4, 4}, gets), 8*(stores+gets-few), pairs...)
			wantBest(t, like(home, stores), like(home, gets), 0, ints(-1, stores)...)
			wantBest(t, like(home, stores), like(Spot{4, 4}, gets), 8*gets, ints(-1, stores)...)
			wantBest(t, like(Spot{4, 4}, stores), like(home, gets), 8*stores, ints(-1, stores)...)
		}
	}
}

func TestP13_1_APairThatSavesNothingIsNone(t *testing.T) {
	wantBest(t, at(0, 0), at(7, 7), 14, -1)
	wantBest(t, at(7, 7), at(0, 0), 14, -1)
	wantCost(t, at(7, 7), at(0, 0), []int{0}, 14)
	// The others are paired as if those at home weren't there.
	wantBest(t, at(5, 5, 0, 0), at(0, 0, 4, 4), 10+8-8, 1, -1)
	wantBest(t, at(0, 0, 5, 5), at(4, 4, 0, 0), 10+8-8, -1, 0)
	wantBest(t, at(0, 0, 5, 5, 0, 0), at(0, 0, 0, 0, 4, 4), 10, -1, 2, -1)
}

func TestP13_1_TheLeastOfSeveral(t *testing.T) {
	// Either store may have the one retrieval: -1 is the least place of the first.
	wantBest(t, at(6, 0, 6, 0), at(6, 0), 24, -1, 0)
	wantBest(t, at(6, 0, 6, 0, 6, 0), at(6, 0), 36, -1, -1, 0)
	wantBest(t, at(6, 0, 6, 0, 6, 0), at(6, 0, 6, 0), 36, -1, 0, 1)
	// The store may have either retrieval: 0 is the least.
	wantBest(t, at(6, 0), at(6, 0, 6, 0), 24, 0)
	wantBest(t, at(6, 0), at(1, 0, 6, 0, 6, 0), 26, 1)
	// Crossed or not, it is the same.
	wantBest(t, at(9, 0, 8, 0), at(4, 0, 3, 0), 34, 0, 1)
	wantBest(t, at(9, 0, 8, 0, 7, 0), at(4, 0, 3, 0, 2, 0), 48, 0, 1, 2)
	wantBest(t, at(2, 0, 9, 0), at(0, 0, 2, 0, 2, 0), 22, 1, 2)
	// A place that is less is passed over where another one drives less.
	wantBest(t, at(9, 0, 5, 0), at(5, 0, 9, 0), 28, 1, 0)
	wantBest(t, at(6, 6, 6, 0), at(6, 0, 6, 6), 24, 1, 0)
	wantBest(t, at(6, 0, 5, 0), at(6, 0), 22, 0, -1)
}

func TestP13_1_ThePairThatSavesMostIsNotAlwaysIn(t *testing.T) {
	// The savings are 16 and 14, 14 and 10: with the 16 goes the 10, and twice 14 is more.
	stores, gets := at(6, 10, 10, 0), at(10, 6, 0, 10)
	wantCost(t, stores, gets, []int{0, 1}, 80-16-10)
	wantBest(t, stores, gets, 80-14-14, 1, 0)
	wantBest(t, gets, stores, 80-14-14, 1, 0)
}

func TestP13_1_BestOfEveryFewOnASmallSquare(t *testing.T) {
	square := at(0, 0, 1, 0, 0, 1, 1, 1)
	for stores := range 4 {
		for gets := range 4 {
			for code := range pow(4, stores+gets) {
				var s, g []Spot
				for range stores {
					s = append(s, square[code%4])
					code /= 4
				}
				for range gets {
					g = append(g, square[code%4])
					code /= 4
				}
				sameBest(t, s, g)
			}
		}
	}
}

// Spots near each other make many pairings of one drive.
func TestP13_1_BestOfAllCounts(t *testing.T) {
	r := rand.New(rand.NewSource(4))
	for stores := range 7 {
		for gets := range 7 {
			times := 40
			if stores+gets > 9 {
				times = 12
			}
			for range times {
				for _, far := range []int{1, 2, 4, 10, 1000} {
					sameBest(t, someSpots(r, stores, far), someSpots(r, gets, far))
				}
			}
		}
	}
}

func TestP13_1_EveryPlaceComes(t *testing.T) {
	r := rand.New(rand.NewSource(5))
	seen := map[[2]int]int{}
	for range 2000 {
		pairs, _, e := Best(someSpots(r, 6, 1000), someSpots(r, 1+r.Intn(6), 1000))
		if e != api.OK {
			t.Fatal(e)
		}
		for store, get := range pairs {
			seen[[2]int{store, get}]++
		}
	}
	if len(seen) != 6*7 {
		t.Fatalf("of the 42 places of stores there came %d: %v", len(seen), seen)
	}
}

func TestP13_2_NoPairingDrivesLess(t *testing.T) {
	r := rand.New(rand.NewSource(6))
	for stores := range 7 {
		for gets := range 7 {
			all := pairings(stores, gets)
			for _, far := range []int{2, 30, 1000} {
				s, g := someSpots(r, stores, far), someSpots(r, gets, far)
				best, least, e := Best(s, g)
				if n, ce := Cost(s, g, best); e != api.OK || ce != api.OK || n != least {
					t.Fatalf("Best(%v, %v): %v, %d, %d; its cost: %d, %d", s, g, best, least, e, n, ce)
				}
				for _, pairs := range all {
					n, e := Cost(s, g, pairs)
					if e != api.OK || n < least || n == least && slices.Compare(pairs, best) < 0 {
						t.Fatalf("Best(%v, %v): %v, %d; but %v: %d, %d", s, g, best, least, pairs, n, e)
					}
				}
			}
		}
	}
}

func TestP13_2_NumberOfPairings(t *testing.T) {
	for i, want := range []int{1, 2, 7, 34, 209, 1546, 13327} {
		if all := pairings(i, i); len(all) != want || !slices.IsSortedFunc(all, slices.Compare) {
			t.Fatalf("%d pairings of %d and %d, not %d rising", len(all), i, i, want)
		}
	}
}

func shuffled(r *rand.Rand, spots []Spot) []Spot {
	other := slices.Clone(spots)
	r.Shuffle(len(other), func(i, j int) { other[i], other[j] = other[j], other[i] })
	return other
}

func TestP13_2_TheOrderDoesNotMatter(t *testing.T) {
	r := rand.New(rand.NewSource(7))
	for range 2000 {
		far := []int{2, 10, 1000}[r.Intn(3)]
		s, g := someSpots(r, r.Intn(7), far), someSpots(r, r.Intn(7), far)
		_, n, _ := Best(s, g)
		for range 6 {
			s2, g2 := shuffled(r, s), shuffled(r, g)
			if _, m, e := Best(s2, g2); m != n || e != api.OK {
				t.Fatalf("Best(%v, %v): %d; of %v, %v: %d, %d", s, g, n, s2, g2, m, e)
			}
		}
		// The ways there and back are as long: so are they if retrievals are stores.
		if _, m, e := Best(g, s); m != n || e != api.OK {
			t.Fatalf("Best(%v, %v): %d, the other way round %d, %d", s, g, n, m, e)
		}
	}
}

func TestP13_2_EveryOrderOfFour(t *testing.T) {
	s, g := at(10, 3, 4, 40, 33, 33, 20, 0), at(9, 30, 31, 2, 0, 20, 35, 39)
	_, n, _ := sameBest(t, s, g)
	var orders [][]int
	for _, p := range pairings(4, 4) {
		if !slices.Contains(p, -1) {
			orders = append(orders, p)
		}
	}
	if len(orders) != 24 {
		t.Fatal(len(orders))
	}
	pick := func(spots []Spot, order []int) []Spot {
		var l []Spot
		for _, p := range order {
			l = append(l, spots[p])
		}
		return l
	}
	for _, a := range orders {
		for _, b := range orders {
			if _, m, e := Best(pick(s, a), pick(g, b)); m != n || e != api.OK {
				t.Fatalf("stores %v, retrievals %v: %d, %d, not %d", a, b, m, e, n)
			}
		}
	}
}

// A pairing's drive is that of the same pairs in another order.
func TestP13_2_CostInAnotherOrder(t *testing.T) {
	r := rand.New(rand.NewSource(8))
	for range 2000 {
		s, g := someSpots(r, r.Intn(7), 1000), someSpots(r, r.Intn(7), 1000)
		all := pairings(len(s), min(len(g), 3))
		pairs := all[r.Intn(len(all))]
		n, _ := Cost(s, g, pairs)
		byStore, byGet := r.Perm(len(s)), r.Perm(len(g))
		s2, p2, g2 := make([]Spot, len(s)), make([]int, len(s)), make([]Spot, len(g))
		for from, to := range byGet {
			g2[to] = g[from]
		}
		for from, to := range byStore {
			s2[to], p2[to] = s[from], -1
			if pairs[from] >= 0 {
				p2[to] = byGet[pairs[from]]
			}
		}
		if m, e := Cost(s2, g2, p2); m != n || e != api.OK {
			t.Fatalf("Cost(%v, %v, %v): %d; in another order (%v, %v, %v): %d, %d", s, g, pairs, n, s2, g2, p2, m, e)
		}
	}
}

// roomy has the list between neighbours, with spare room behind it.
func roomy[T any](list []T, other T) (within, whole []T) {
	whole = append([]T{other, other}, list...)
	for range 9 {
		whole = append(whole, other)
	}
	return whole[2 : 2+len(list)], whole
}

// given are lists for a call, of which right and wrong ones come.
func given(r *rand.Rand) (stores, gets []Spot, pairs []int) {
	stores, gets = someSpots(r, r.Intn(8), 1000+r.Intn(2)), someSpots(r, r.Intn(8), 30)
	for range len(stores) {
		pairs = append(pairs, r.Intn(9)-1)
	}
	return stores, gets, pairs
}

func TestP13_3_WhatIsHandedInStays(t *testing.T) {
	r := rand.New(rand.NewSource(9))
	seen := map[api.Errno]int{}
	for range 5000 {
		stores, gets, pairs := given(r)
		s, allS := roomy(stores, Spot{77, 78})
		g, allG := roomy(gets, Spot{79, 80})
		p, allP := roomy(pairs, -7)
		before := fmt.Sprint(allS, allG, allP)
		_, e := Cost(s, g, p)
		seen[e]++
		Best(s, g)
		if after := fmt.Sprint(allS, allG, allP); after != before {
			t.Fatalf("%s is now %s", before, after)
		}
	}
	if len(seen) != 3 {
		t.Fatalf("answers: %v", seen)
	}
}

// What lies beside the lists doesn't count.
func TestP13_3_NothingBesideTheListsIsRead(t *testing.T) {
	r := rand.New(rand.NewSource(10))
	for range 2000 {
		stores, gets, pairs := given(r)
		n, e := Cost(stores, gets, pairs)
		best, least, be := Best(stores, gets)
		for _, other := range []Spot{home, {5, 5}, {-1, 2000}} {
			s, _ := roomy(stores, other)
			g, _ := roomy(gets, other)
			p, _ := roomy(pairs, other.X)
			if m, f := Cost(s, g, p); m != n || f != e {
				t.Fatalf("Cost(%v, %v, %v): %d, %d, beside %v %d, %d", s, g, p, n, e, other, m, f)
			}
			if l, m, f := Best(s, g); !slices.Equal(l, best) || m != least || f != be {
				t.Fatalf("Best(%v, %v): %v, %d, %d, beside %v %v, %d, %d", s, g, best, least, be, other, l, m, f)
			}
		}
	}
}

// span is where a list's memory begins and ends, spare room included.
func span[T any](list []T) (from, to uintptr) {
	if cap(list) == 0 {
		return 0, 0
	}
	from = uintptr(unsafe.Pointer(unsafe.SliceData(list)))
	return from, from + uintptr(cap(list))*unsafe.Sizeof(list[:1][0])
}

func overlaps[A, B any](a []A, b []B) bool {
	from, to := span(a)
	begin, end := span(b)
	return from < end && begin < to
}

func scribble(list []int) {
	list = list[:cap(list)]
	for i := range list {
		list[i] = -99 - i
	}
}

func TestP13_3_AnswersAreNewMemory(t *testing.T) {
	r := rand.New(rand.NewSource(11))
	for range 3000 {
		stores, gets := someSpots(r, r.Intn(7), 20), someSpots(r, r.Intn(7), 20)
		first, n, _ := Best(stores, gets)
		kept := slices.Clone(first)
		second, _, _ := Best(stores, gets)
		if overlaps(first, second) || overlaps(first, stores) || overlaps(first, gets) {
			t.Fatalf("Best(%v, %v) shares memory", stores, gets)
		}
		before := fmt.Sprint(stores, gets)
		scribble(first)
		if fmt.Sprint(stores, gets) != before || !slices.Equal(second, kept) {
			t.Fatalf("%s, %v: now %v, %v, %v", before, kept, stores, gets, second)
		}
		third, m, e := Best(stores, gets)
		if !slices.Equal(third, kept) || m != n || e != api.OK {
			t.Fatalf("Best(%v, %v): %v, %d, then %v, %d, %d", stores, gets, kept, n, third, m, e)
		}
		if c, e := Cost(stores, gets, third); c != n || e != api.OK {
			t.Fatalf("Cost(%v, %v, %v): %d, %d, not %d", stores, gets, third, c, e, n)
		}
	}
}

// What is done to the arguments behind a call changes nothing that it told.
func TestP13_3_ArgumentsAreNotKept(t *testing.T) {
	stores, gets := at(3, 1, 9, 9), at(8, 9)
	pairs, n, _ := Best(stores, gets)
	stores[0], stores[1], gets[0] = Spot{9, 9}, Spot{3, 1}, Spot{4, 4}
	if !slices.Equal(pairs, []int{-1, 0}) || n != 25 {
		t.Fatal(pairs, n)
	}
	wantBest(t, stores, gets, 9+5+4+6, 0, -1)
	wantBest(t, at(3, 1, 9, 9), at(8, 9), 25, -1, 0)
}

// R8: the answer is that of the arguments, whatever was asked ahead.
func TestP7_AnswersHangOnArgumentsAlone(t *testing.T) {
	r := rand.New(rand.NewSource(12))
	asked := []func() string{}
	told := []string{}
	for range 300 {
		stores, gets, pairs := given(r)
		ask := func() string {
			n, e := Cost(stores, gets, pairs)
			l, m, f := Best(stores, gets)
			return fmt.Sprint(n, e, l, m, f)
		}
		asked, told = append(asked, ask), append(told, ask())
	}
	for range 2 {
		for _, i := range r.Perm(len(asked)) {
			if again := asked[i](); again != told[i] {
				t.Fatalf("%s, and then %s", told[i], again)
			}
		}
	}
}

func TestP7_EmptyListsMeanTheSame(t *testing.T) {
	for _, s := range [][]Spot{nil, {}, make([]Spot, 0, 8)} {
		for _, g := range [][]Spot{nil, {}, make([]Spot, 0, 8)} {
			for _, p := range [][]int{nil, {}, make([]int, 0, 8)} {
				wantCost(t, s, g, p, 0)
			}
			wantBest(t, s, g, 0)
		}
	}
}

func TestP6_NoCallPanics(t *testing.T) {
	wild := append(outside(), -1, 0, 1, 5, 6, 7, 999, 1000)
	r := rand.New(rand.NewSource(13))
	some := func() int { return wild[r.Intn(len(wild))] }
	for _, a := range wild {
		for _, b := range wild {
			Drive(Spot{a, b}, Spot{b, a})
			Drive(Spot{a, a}, Spot{b, b})
		}
	}
	for range 20000 {
		var s, g []Spot
		var p []int
		for range r.Intn(9) {
			s = append(s, Spot{some(), some()})
		}
		for range r.Intn(9) {
			g = append(g, Spot{some(), some()})
		}
		for range r.Intn(9) {
			p = append(p, some())
		}
		sameCost(t, s, g, p)
		sameBest(t, s, g)
	}
	refusedBest(t, make([]Spot, 1<<20), make([]Spot, 1<<20))
	refusedCost(t, make([]Spot, 1<<20), nil, make([]int, 1<<20), api.ErrRange)
}
