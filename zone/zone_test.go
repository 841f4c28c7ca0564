package zone

import (
	"fmt"
	"math"
	"math/rand"
	"slices"
	"testing"
	"unsafe"

	"stillage/api"
	"stillage/layout"
	"stillage/route"
)

// What the chapter says, written by its words, slow and plain, and apart from the program.

// zoneByWords is the zone of the node to which the device's edge goes.
func zoneByWords(l api.Layout, device int) int {
	return l.Nodes[l.Edges[device-1][1]].Zone
}

// piecesByWords cuts a row of devices, looked at from its end, where the zone changes.
func piecesByWords(l api.Layout, path []int) (pieces [][]int, zones []int) {
	end := len(path)
	for i := len(path) - 1; i >= 0; i-- {
		zone := zoneByWords(l, path[i])
		if i > 0 && zoneByWords(l, path[i-1]) == zone {
			continue
		}
		pieces = append([][]int{path[i:end]}, pieces...)
		zones = append([]int{zone}, zones...)
		end = i
	}
	return pieces, zones
}

// wantsOf tells whether a wants a zone that b holds.
func wantsOf(h []Holder, a, b int) bool {
	return slices.Contains(h[b].Has, h[a].Want)
}

// isRing tells whether these holders, each once, wait for one another in this order.
func isRing(h []Holder, places []int) bool {
	for i, place := range places {
		if place < 0 || place >= len(h) || slices.Contains(places[:i], place) {
			return false
		}
	}
	for i, place := range places {
		if !wantsOf(h, place, places[(i+1)%len(places)]) {
			return false
		}
	}
	return len(places) > 0
}

// anyRow tells whether some row of holders, each once, is a ring, by all rows there are: of few holders alone.
func anyRow(h []Holder, row []int) bool {
	if isRing(h, row) {
		return true
	}
	for place := range h {
		if !slices.Contains(row, place) && anyRow(h, append(slices.Clone(row), place)) {
			return true
		}
	}
	return false
}

// waitsForItself tells whether a holder waits, over others or not, for itself: then there is a ring.
func waitsForItself(h []Holder) bool {
	n := len(h)
	waits := make([][]bool, n)
	for a := range n {
		waits[a] = make([]bool, n)
		for b := range n {
			waits[a][b] = wantsOf(h, a, b)
		}
	}
	for over := range n {
		for a := range n {
			for b := range n {
				waits[a][b] = waits[a][b] || waits[a][over] && waits[over][b]
			}
		}
	}
	for a := range n {
		if waits[a][a] {
			return true
		}
	}
	return false
}

// holdStuck holds an answer of Stuck against whether it is to be stuck.
func holdStuck(t *testing.T, h []Holder, is bool) {
	t.Helper()
	got, e := Stuck(h)
	if e != api.OK {
		t.Fatalf("Stuck(%v): %v, %d", h, got, e)
	}
	if !is && len(got) != 0 {
		t.Fatalf("Stuck(%v): %v, but it isn't stuck", h, got)
	}
	if is && !isRing(h, got) {
		t.Fatalf("Stuck(%v): %v is no ring", h, got)
	}
}

// holder holds some zones and wants one.
func holder(want int, has ...int) Holder {
	return Holder{Has: has, Want: want}
}

// build makes a layout of tracks in these zones.
func build(t testing.TB, zones []int, edges ...[2]int) api.Layout {
	t.Helper()
	var l api.Layout
	for i, zone := range zones {
		l.Nodes = append(l.Nodes, api.Node{Name: fmt.Sprintf("n%d", i), Kind: api.NTrack, Zone: zone})
	}
	l.Edges = append(l.Edges, edges...)
	if e := layout.Check(l); e != api.OK {
		t.Fatalf("%v %v is no layout", zones, edges)
	}
	return l
}

// line is a line of tracks in these zones: the device d goes from the place d - 1 to the place d.
func line(t testing.TB, zones ...int) api.Layout {
	var edges [][2]int
	for i := range len(zones) - 1 {
		edges = append(edges, [2]int{i, i + 1})
	}
	return build(t, zones, edges...)
}

// whole is the path of a line from its beginning to its end.
func whole(l api.Layout) []int {
	var path []int
	for i := range l.Edges {
		path = append(path, i+1)
	}
	return path
}

// chance makes a layout, of rnd's choice, with nodes of all kinds in some zones.
func chance(t testing.TB, rnd *rand.Rand, nodes, edges, zones int) api.Layout {
	var l api.Layout
	for i := range nodes {
		kind := []int{1, 1, 1, 1, 2, 3, 4}[rnd.Intn(7)]
		l.Nodes = append(l.Nodes, api.Node{Name: fmt.Sprintf("n%d", i), Kind: kind, Zone: rnd.Intn(zones)})
	}
	for range edges {
		e := [2]int{rnd.Intn(nodes), rnd.Intn(nodes)}
		track := l.Nodes[e[0]].Kind == api.NTrack || l.Nodes[e[1]].Kind == api.NTrack
		if e[0] != e[1] && track && !slices.Contains(l.Edges, e) {
			l.Edges = append(l.Edges, e)
		}
	}
	if e := layout.Check(l); e != api.OK {
		t.Fatalf("%v is no layout", l)
	}
	return l
}

// most has 40 nodes, in all zones, and 120 edges.
func most(t testing.TB) api.Layout {
	var zones []int
	var edges [][2]int
	for i := range api.MaxNode {
		zones = append(zones, i/3%api.MaxZone)
	}
	for _, by := range []int{6, 39, 1} {
		for i := range api.MaxNode {
			edges = append(edges, [2]int{i, (i + by) % api.MaxNode})
		}
	}
	return build(t, zones, edges...)
}

// holdPath holds Pieces and Zones of a row of devices against the words, and against one another.
func holdPath(t *testing.T, l api.Layout, path []int) {
	t.Helper()
	wantPieces, wantZones := piecesByWords(l, path)
	pieces, e := Pieces(l, path)
	if e != api.OK || !slices.EqualFunc(pieces, wantPieces, slices.Equal[[]int]) {
		t.Fatalf("Pieces(%v, %v): %v, %d, not %v", l, path, pieces, e, wantPieces)
	}
	zones, e := Zones(l, path)
	if e != api.OK || !slices.Equal(zones, wantZones) {
		t.Fatalf("Zones(%v, %v): %v, %d, not %v", l, path, zones, e, wantZones)
	}
	if !slices.Equal(slices.Concat(pieces...), path) || len(zones) != len(pieces) {
		t.Fatalf("Pieces(%v, %v): %v, Zones: %v", l, path, pieces, zones)
	}
	for i, piece := range pieces {
		for _, device := range piece {
			if zoneByWords(l, device) != zones[i] {
				t.Fatalf("Pieces(%v, %v): %v, Zones: %v: %d isn't in the zone", l, path, pieces, zones, device)
			}
		}
		if len(piece) == 0 || i > 0 && zones[i] == zones[i-1] {
			t.Fatalf("Pieces(%v, %v): %v, Zones: %v", l, path, pieces, zones)
		}
	}
}

func TestP9_1_Example(t *testing.T) {
	if got, e := Stuck([]Holder{holder(1, 0), holder(0, 1)}); e != api.OK || !isRing([]Holder{holder(1, 0), holder(0, 1)}, got) || len(got) != 2 {
		t.Errorf("A and B: %v, %d", got, e)
	}
	if got, e := Stuck([]Holder{holder(1, 0), holder(-1, 1)}); e != api.OK || len(got) != 0 {
		t.Errorf("without B's want: %v, %d", got, e)
	}
	// The path goes through the nodes' zones 0, 0, 1, 0; where it begins doesn't count.
	for begin := range api.MaxZone {
		l := line(t, begin, 0, 0, 1, 0)
		pieces, e := Pieces(l, []int{1, 2, 3, 4})
		if e != api.OK || !slices.EqualFunc(pieces, [][]int{{1, 2}, {3}, {4}}, slices.Equal[[]int]) {
			t.Errorf("Pieces: %v, %d", pieces, e)
		}
		if zones, e := Zones(l, []int{1, 2, 3, 4}); e != api.OK || !slices.Equal(zones, []int{0, 1, 0}) {
			t.Errorf("Zones: %v, %d", zones, e)
		}
	}
}

func TestP9_1_PathsOfALine(t *testing.T) {
	for _, c := range []struct {
		what   string
		at     []int // the nodes' zones
		path   []int
		pieces [][]int
		zones  []int
	}{
		{"one zone", []int{3, 3, 3, 3}, []int{1, 2, 3}, [][]int{{1, 2, 3}}, []int{3}},
		{"one zone, from another one", []int{2, 3, 3, 3}, []int{1, 2, 3}, [][]int{{1, 2, 3}}, []int{3}},
		{"two zones", []int{0, 0, 0, 5, 5}, []int{1, 2, 3, 4}, [][]int{{1, 2}, {3, 4}}, []int{0, 5}},
		{"two zones, the less one behind", []int{5, 5, 0, 0}, []int{1, 2, 3}, [][]int{{1}, {2, 3}}, []int{5, 0}},
		{"back to a zone", []int{0, 1, 2, 1, 1}, []int{1, 2, 3, 4}, [][]int{{1}, {2}, {3, 4}}, []int{1, 2, 1}},
		{"back to a zone twice", []int{0, 4, 0, 4, 0}, []int{1, 2, 3, 4}, [][]int{{1}, {2}, {3}, {4}}, []int{4, 0, 4, 0}},
		{"a zone at each device", []int{7, 0, 1, 2, 3, 4, 5, 6, 7}, []int{1, 2, 3, 4, 5, 6, 7, 8},
			[][]int{{1}, {2}, {3}, {4}, {5}, {6}, {7}, {8}}, []int{0, 1, 2, 3, 4, 5, 6, 7}},
		{"many zones", []int{0, 7, 7, 7, 6, 0, 0, 3}, []int{1, 2, 3, 4, 5, 6, 7},
			[][]int{{1, 2, 3}, {4}, {5, 6}, {7}}, []int{7, 6, 0, 3}},
		{"a part of the line", []int{0, 1, 1, 2, 2, 2, 0}, []int{2, 3, 4}, [][]int{{2}, {3, 4}}, []int{1, 2}},
		{"one device", []int{0, 6}, []int{1}, [][]int{{1}}, []int{6}},
		{"one device in zone 0", []int{6, 0}, []int{1}, [][]int{{1}}, []int{0}},
		{"the last device", []int{0, 0, 0, 2}, []int{3}, [][]int{{3}}, []int{2}},
		{"no device", []int{0, 1, 2}, nil, nil, nil},
		{"no device, an empty row", []int{0, 1, 2}, []int{}, nil, nil},
	} {
		l := line(t, c.at...)
		pieces, e := Pieces(l, c.path)
		if e != api.OK || !slices.EqualFunc(pieces, c.pieces, slices.Equal[[]int]) {
			t.Errorf("%s: Pieces: %v, %d, not %v", c.what, pieces, e, c.pieces)
		}
		zones, e := Zones(l, c.path)
		if e != api.OK || !slices.Equal(zones, c.zones) {
			t.Errorf("%s: Zones: %v, %d, not %v", c.what, zones, e, c.zones)
		}
		holdPath(t, l, c.path)
	}
}

func TestP9_1_TheZoneIsThatOfTheEnd(t *testing.T) {
	for from := range api.MaxZone {
		for to := range api.MaxZone {
			l := build(t, []int{from, to}, [2]int{0, 1}, [2]int{1, 0})
			if zones, e := Zones(l, []int{1}); e != api.OK || !slices.Equal(zones, []int{to}) {
				t.Errorf("from %d to %d: %v, %d", from, to, zones, e)
			}
			if zones, e := Zones(l, []int{2}); e != api.OK || !slices.Equal(zones, []int{from}) {
				t.Errorf("back from %d to %d: %v, %d", to, from, zones, e)
			}
			want := 3
			if from == to {
				want = 1
			}
			if pieces, e := Pieces(l, []int{1, 2, 1}); e != api.OK || len(pieces) != want {
				t.Errorf("%d and %d: %v, %d", from, to, pieces, e)
			}
		}
	}
	// Both edges go from zone 0: by their beginnings they would be one piece, by their ends they are two.
	l := build(t, []int{0, 0, 1, 2}, [2]int{0, 2}, [2]int{1, 3}, [2]int{2, 1}, [2]int{3, 1})
	if pieces, e := Pieces(l, []int{1, 2}); e != api.OK || len(pieces) != 2 {
		t.Errorf("from one zone: %v, %d", pieces, e)
	}
	// These go from 1 and from 2 to 0.
	if pieces, e := Pieces(l, []int{3, 4}); e != api.OK || len(pieces) != 1 {
		t.Errorf("to one zone: %v, %d", pieces, e)
	}
}

func TestP9_1_RowsThatAreNoPaths(t *testing.T) {
	l := line(t, 0, 1, 1, 2, 1)
	for _, c := range []struct {
		path   []int
		pieces [][]int
		zones  []int
	}{
		{[]int{4, 3, 2, 1}, [][]int{{4}, {3}, {2, 1}}, []int{1, 2, 1}},
		{[]int{1, 1, 1}, [][]int{{1, 1, 1}}, []int{1}},
		{[]int{1, 4}, [][]int{{1, 4}}, []int{1}},
		{[]int{3, 1, 3, 3}, [][]int{{3}, {1}, {3, 3}}, []int{2, 1, 2}},
	} {
		pieces, e := Pieces(l, c.path)
		if e != api.OK || !slices.EqualFunc(pieces, c.pieces, slices.Equal[[]int]) {
			t.Errorf("Pieces(%v): %v, %d, not %v", c.path, pieces, e, c.pieces)
		}
		zones, e := Zones(l, c.path)
		if e != api.OK || !slices.Equal(zones, c.zones) {
			t.Errorf("Zones(%v): %v, %d, not %v", c.path, zones, e, c.zones)
		}
	}
	var long []int
	for i := range 100000 {
		long = append(long, i/3%4+1)
	}
	holdPathQuickly(t, l, long)
}

// holdPathQuickly holds the pieces of a long row of devices by their number alone.
func holdPathQuickly(t *testing.T, l api.Layout, path []int) {
	t.Helper()
	changes := 1
	for i := range path[1:] {
		if zoneByWords(l, path[i]) != zoneByWords(l, path[i+1]) {
			changes++
		}
	}
	pieces, e := Pieces(l, path)
	if e != api.OK || len(pieces) != changes || !slices.Equal(slices.Concat(pieces...), path) {
		t.Errorf("%d pieces, %d, not %d", len(pieces), e, changes)
	}
	if zones, e := Zones(l, path); e != api.OK || len(zones) != changes {
		t.Errorf("%d zones, %d, not %d", len(zones), e, changes)
	}
}

func TestP9_1_NoDevice(t *testing.T) {
	apart := build(t, []int{0, 1})
	for _, l := range []api.Layout{apart, line(t, 0, 1), line(t, 0, 0, 1, 2, 2), most(t)} {
		n := len(l.Edges)
		right := whole(l)
		for _, wrong := range []int{0, -1, n + 1, n + 2, -n, math.MaxInt, math.MinInt, 1 << 32, 1<<32 + 1} {
			for at := range n + 1 {
				path := slices.Insert(slices.Clone(right), at, wrong)
				if pieces, e := Pieces(l, path); e != api.ErrRange || len(pieces) != 0 {
					t.Errorf("%d of %d edges, at %d: Pieces: %v, %d", wrong, n, at, pieces, e)
				}
				if zones, e := Zones(l, path); e != api.ErrRange || len(zones) != 0 {
					t.Errorf("%d of %d edges, at %d: Zones: %v, %d", wrong, n, at, zones, e)
				}
			}
		}
		holdPath(t, l, right)
		holdPath(t, l, nil)
	}
}

func TestP9_1_AllSmallPaths(t *testing.T) {
	// All zones 0 to 2 of five nodes, all parts of the line.
	for set := range 3 * 3 * 3 * 3 * 3 {
		l := line(t, set%3, set/3%3, set/9%3, set/27%3, set/81)
		for from := range 5 {
			for to := from; to < 5; to++ {
				holdPath(t, l, whole(l)[from:to])
			}
		}
	}
}

func TestP9_1_PathsOfManyLayouts(t *testing.T) {
	rnd := rand.New(rand.NewSource(91))
	paths := 0
	for i := range 200 {
		l := chance(t, rnd, 2+rnd.Intn(38), 120, 1+i%api.MaxZone)
		for a := range l.Nodes {
			b := rnd.Intn(len(l.Nodes))
			path, e := route.Path(l, nil, a, b)
			if e != api.OK {
				continue
			}
			paths++
			holdPath(t, l, path)
			if loop, e := route.Loop(l, nil, b); e == api.OK {
				holdPath(t, l, slices.Concat(path, loop, loop))
			}
		}
	}
	if paths < 1000 {
		t.Errorf("%d paths alone", paths)
	}
}

func TestP9_1_RowsOfManyLayouts(t *testing.T) {
	rnd := rand.New(rand.NewSource(92))
	for i := range 1000 {
		l := chance(t, rnd, 2+rnd.Intn(20), 60, 1+i%api.MaxZone)
		var row []int
		for range rnd.Intn(30) {
			if len(l.Edges) > 0 {
				row = append(row, 1+rnd.Intn(len(l.Edges)))
			}
		}
		holdPath(t, l, row)
	}
	l := most(t)
	holdPath(t, l, whole(l))
	holdPath(t, l, []int{120})
}

func TestP9_1_Order(t *testing.T) {
	for _, c := range []struct {
		what  string
		zones []int
		want  []int
	}{
		{"nothing", nil, nil},
		{"nothing, an empty list", []int{}, nil},
		{"the first", []int{0}, []int{0}},
		{"the last", []int{7}, []int{7}},
		{"one zone several times", []int{4, 4, 4, 4}, []int{4}},
		{"zone 0 several times", []int{0, 0}, []int{0}},
		{"some", []int{5, 2, 3}, []int{2, 3, 5}},
		{"some twice", []int{7, 0, 7, 3, 0}, []int{0, 3, 7}},
		{"rising already", []int{1, 2, 6}, []int{1, 2, 6}},
		{"all eight", []int{3, 1, 0, 7, 5, 2, 6, 4}, []int{0, 1, 2, 3, 4, 5, 6, 7}},
		{"all eight, falling", []int{7, 6, 5, 4, 3, 2, 1, 0}, []int{0, 1, 2, 3, 4, 5, 6, 7}},
		{"falling", []int{6, 3, 1}, []int{1, 3, 6}},
		{"falling, some twice", []int{6, 6, 3, 1, 1}, []int{1, 3, 6}},
	} {
		if got, e := Order(c.zones); e != api.OK || !slices.Equal(got, c.want) {
			t.Errorf("%s: %v, %d, not %v", c.what, got, e, c.want)
		}
	}
	if got, e := Order(slices.Repeat([]int{6, 2}, 100000)); e != api.OK || !slices.Equal(got, []int{2, 6}) {
		t.Errorf("a long list: %v, %d", got, e)
	}
}

func TestP9_1_OrderOfAllSets(t *testing.T) {
	rnd := rand.New(rand.NewSource(93))
	for set := range 1 << api.MaxZone {
		var zones []int
		for zone := range api.MaxZone {
			if set>>zone&1 == 1 {
				zones = append(zones, zone)
			}
		}
		mixed := append(slices.Clone(zones), zones[len(zones)/2:]...)
		rnd.Shuffle(len(mixed), func(i, j int) { mixed[i], mixed[j] = mixed[j], mixed[i] })
		if got, e := Order(mixed); e != api.OK || !slices.Equal(got, zones) {
			t.Errorf("Order(%v): %v, %d, not %v", mixed, got, e, zones)
		}
	}
}

// noZones are numbers that are no zones.
var noZones = []int{-1, 8, -2, 9, -8, 40, 256, 1 << 32, math.MaxInt, math.MinInt}

func TestP9_1_OrderOfWhatIsNoZone(t *testing.T) {
	for _, wrong := range noZones {
		for _, zones := range [][]int{nil, {0}, {7, 0, 3}, {0, 1, 2, 3, 4, 5, 6, 7}} {
			for at := range len(zones) + 1 {
				list := slices.Insert(slices.Clone(zones), at, wrong)
				if got, e := Order(list); e != api.ErrRange || len(got) != 0 {
					t.Errorf("Order(%v): %v, %d", list, got, e)
				}
			}
		}
	}
}

func TestP9_1_Rings(t *testing.T) {
	for _, c := range []struct {
		what string
		h    []Holder
		want []int // the only ring's holders, rising
	}{
		{"two", []Holder{holder(1, 0), holder(0, 1)}, []int{0, 1}},
		{"two of the last zones", []Holder{holder(7, 6), holder(6, 7)}, []int{0, 1}},
		{"three", []Holder{holder(1, 0), holder(2, 1), holder(0, 2)}, []int{0, 1, 2}},
		{"three, the other way round", []Holder{holder(2, 0), holder(0, 1), holder(1, 2)}, []int{0, 1, 2}},
		{"eight", []Holder{holder(3, 2), holder(4, 3), holder(0, 7), holder(7, 6), holder(2, 1), holder(1, 0), holder(6, 5), holder(5, 4)},
			[]int{0, 1, 2, 3, 4, 5, 6, 7}},
		{"one alone", []Holder{holder(5, 5)}, []int{0}},
		{"one alone, zone 0", []Holder{holder(0, 0)}, []int{0}},
		{"one alone that holds more", []Holder{holder(2, 1, 2, 3)}, []int{0}},
		{"one alone among others", []Holder{holder(1, 0), holder(3, 1), holder(3, 3), holder(-1, 4)}, []int{2}},
		{"several zones each", []Holder{holder(3, 0, 1), holder(1, 2), holder(2, 3)}, []int{0, 1, 2}},
		{"a zone twice in one's list", []Holder{holder(1, 0, 0), holder(0, 1, 1, 1)}, []int{0, 1}},
		{"one that holds nothing ahead", []Holder{holder(1), holder(2, 1), holder(1, 2, 3)}, []int{1, 2}},
		{"rows that lead to it", []Holder{holder(1, 0), holder(2, 1), holder(3, 2), holder(2, 3), holder(0)}, []int{2, 3}},
		{"rows that lead away from it", []Holder{holder(1, 0), holder(0, 1), holder(4, 0, 1), holder(-1, 4)}, []int{0, 1}},
		{"a zone that two hold, of whom one waits", []Holder{holder(1, 0), holder(-1, 1), holder(0, 1)}, []int{0, 2}},
		{"a zone that two hold, the first in vain", []Holder{holder(1, 0), holder(7, 1), holder(0, 1)}, []int{0, 2}},
		{"a zone that two hold, the other first", []Holder{holder(1, 0), holder(0, 1), holder(-1, 1)}, []int{0, 1}},
		{"behind many that don't wait", append(times(holder(-1, 2), 38), holder(2, 0), holder(0, 2)), []int{38, 39}},
	} {
		got, e := Stuck(c.h)
		if e != api.OK || !isRing(c.h, got) {
			t.Errorf("%s: %v, %d is no ring", c.what, got, e)
		}
		slices.Sort(got)
		if !slices.Equal(got, c.want) {
			t.Errorf("%s: %v, not %v", c.what, got, c.want)
		}
	}
}

// times is so many times one holder.
func times(h Holder, n int) []Holder {
	return slices.Repeat([]Holder{h}, n)
}

func TestP9_1_NoRings(t *testing.T) {
	for _, c := range []struct {
		what string
		h    []Holder
	}{
		{"no holders", nil},
		{"no holders, an empty list", []Holder{}},
		{"one that has and wants nothing", []Holder{holder(-1)}},
		{"one that wants nothing", []Holder{holder(-1, 0, 1, 2)}},
		{"one that holds nothing", []Holder{holder(3)}},
		{"one that wants what nobody holds", []Holder{holder(4, 0, 1, 2, 3, 5, 6, 7)}},
		{"two in a row", []Holder{holder(1, 0), holder(-1, 1)}},
		{"two in a row, the other way round", []Holder{holder(-1, 0), holder(0, 1)}},
		{"three in a row", []Holder{holder(1, 0), holder(2, 1), holder(-1, 2)}},
		{"a row to a zone that nobody holds", []Holder{holder(1, 0), holder(2, 1), holder(7, 2)}},
		{"two that want the same", []Holder{holder(2, 0), holder(2, 1), holder(-1, 2)}},
		{"two that hold nothing and want the same", []Holder{holder(2), holder(2)}},
		{"one zone that several hold", []Holder{holder(-1, 0), holder(-1, 0), holder(0, 1), holder(0, 2)}},
		{"a fork that comes together", []Holder{holder(1, 0), holder(2, 1), holder(2, 1), holder(-1, 2)}},
		{"40 in rows", times(holder(1, 0), 40)},
		{"40 that want nothing", times(holder(-1, 0, 1, 2, 3, 4, 5, 6, 7), 40)},
		{"40 that hold nothing", times(holder(0), 40)},
	} {
		if got, e := Stuck(c.h); e != api.OK || len(got) != 0 {
			t.Errorf("%s: %v, %d", c.what, got, e)
		}
	}
}

func TestP9_1_TwoRings(t *testing.T) {
	h := []Holder{holder(1, 0), holder(3, 2), holder(0, 1), holder(4, 3), holder(2, 4), holder(-1, 5)}
	holdStuck(t, h, true)
	got, _ := Stuck(h)
	slices.Sort(got)
	if !slices.Equal(got, []int{0, 2}) && !slices.Equal(got, []int{1, 3, 4}) {
		t.Errorf("two rings: %v", got)
	}
	// Without one of the rings it is the other one.
	h[0].Want = -1
	got, e := Stuck(h)
	if slices.Sort(got); e != api.OK || !slices.Equal(got, []int{1, 3, 4}) {
		t.Errorf("without the first: %v, %d", got, e)
	}
	h[0].Want, h[3].Want = 1, -1
	got, e = Stuck(h)
	if slices.Sort(got); e != api.OK || !slices.Equal(got, []int{0, 2}) {
		t.Errorf("without the second: %v, %d", got, e)
	}
	h[0].Want = 5
	holdStuck(t, h, false)
	// Two rings that share a holder.
	holdStuck(t, []Holder{holder(1, 0), holder(0, 1), holder(0, 1)}, true)
	holdStuck(t, []Holder{holder(1, 0, 2), holder(2, 1), holder(0, 1)}, true)
}

func TestP9_1_RingsOfManyHolders(t *testing.T) {
	for n := 1; n <= 40; n++ {
		for by := 1; by < api.MaxZone; by++ {
			var h []Holder
			for i := range n {
				h = append(h, holder((i+1)*by%api.MaxZone, i*by%api.MaxZone))
			}
			h[n-1].Want = 0 // what the first one holds
			holdStuck(t, h, true)
			slices.Reverse(h)
			holdStuck(t, h, true)
		}
	}
	// 40 holders, each of which waits for the next one; all of them hold the last zone, which nobody wants.
	var h []Holder
	for i := range 40 {
		h = append(h, holder((i+1)%7, i%7, 7))
	}
	h[39].Want = 0
	holdStuck(t, h, true)
	// As soon as those of one zone want nothing, it isn't stuck.
	for i := range 40 {
		if i%7 == 3 {
			h[i].Want = -1
		}
	}
	h[39].Want = 5
	holdStuck(t, h, waitsForItself(h))
}

func TestP9_1_FortyAndNoMore(t *testing.T) {
	for _, one := range []Holder{{}, holder(-1), holder(3), holder(-1, 0, 7), holder(1, 1), holder(0, 0, 1)} {
		if _, e := Stuck(times(one, 40)); e != api.OK {
			t.Errorf("40 times %v: %d", one, e)
		}
		for _, n := range []int{41, 42, 80, 1000} {
			if got, e := Stuck(times(one, n)); e != api.ErrRange || len(got) != 0 {
				t.Errorf("%d times %v: %v, %d", n, one, got, e)
			}
		}
	}
	// All 40 wait for the one at the end, who waits for itself.
	h := append(times(holder(7, 0), 39), holder(7, 7))
	if got, e := Stuck(h); e != api.OK || !slices.Equal(got, []int{39}) {
		t.Errorf("%v, %d", got, e)
	}
}

func TestP9_1_StuckOfWhatIsNoZone(t *testing.T) {
	right := []Holder{holder(1, 0), holder(0, 1), holder(-1), holder(7, 7), holder(0, 0, 1, 2, 3, 4, 5, 6, 7)}
	for _, wrong := range noZones {
		holders := []Holder{
			holder(-1, wrong), holder(0, wrong), holder(0, wrong, 1), holder(0, 1, wrong), holder(0, 0, wrong, 7),
			holder(wrong, wrong),
		}
		if wrong != -1 {
			holders = append(holders, holder(wrong), holder(wrong, 0), holder(wrong, 0, 7))
		}
		for _, h := range holders {
			for n := range len(right) + 1 {
				for at := range n + 1 {
					list := slices.Insert(slices.Clone(right[:n]), at, h)
					if got, e := Stuck(list); e != api.ErrRange || len(got) != 0 {
						t.Errorf("Stuck(%v): %v, %d", list, got, e)
					}
				}
			}
		}
	}
	for zone := range api.MaxZone {
		if _, e := Stuck([]Holder{holder(zone, zone)}); e != api.OK {
			t.Errorf("zone %d: %d", zone, e)
		}
	}
}

// small is the holder of a number: zones 0 to 2, any set of them held, one wanted, or none.
func small(number int) Holder {
	h := Holder{Want: number/8%4 - 1}
	for zone := range 3 {
		if number>>zone&1 == 1 {
			h.Has = append(h.Has, zone)
		}
	}
	return h
}

func TestP9_1_AllOfThreeHolders(t *testing.T) {
	for a := range 32 {
		one := []Holder{small(a)}
		holdStuck(t, one, anyRow(one, nil))
		for b := range 32 {
			two := []Holder{small(a), small(b)}
			holdStuck(t, two, anyRow(two, nil))
			for c := range 32 {
				three := []Holder{small(a), small(b), small(c)}
				is := anyRow(three, nil)
				if is != waitsForItself(three) {
					t.Fatalf("%v: the two forms by words differ", three)
				}
				holdStuck(t, three, is)
			}
		}
	}
}

// chanceHolders are so many holders, of rnd's choice.
func chanceHolders(rnd *rand.Rand, n, zones, wants int) []Holder {
	var h []Holder
	for range n {
		one := Holder{Want: -1}
		if rnd.Intn(10) < wants {
			one.Want = rnd.Intn(zones)
		}
		for range rnd.Intn(3) {
			one.Has = append(one.Has, rnd.Intn(zones))
		}
		h = append(h, one)
	}
	return h
}

func TestP9_1_ManyHolders(t *testing.T) {
	rnd := rand.New(rand.NewSource(94))
	stuck := 0
	for i := range 20000 {
		h := chanceHolders(rnd, i%41, 2+rnd.Intn(7), 1+i/41%10)
		is := waitsForItself(h)
		if is {
			stuck++
		}
		holdStuck(t, h, is)
	}
	if stuck < 4000 || stuck > 16000 {
		t.Errorf("%d of 20000 are stuck", stuck)
	}
}

// holdRising holds that a way of holding, where each zone is held by one and each wants a zone above, isn't stuck.
func holdRising(t *testing.T, h []Holder) {
	t.Helper()
	var held []int
	for _, one := range h {
		held = append(held, one.Has...)
		if one.Want >= 0 && len(one.Has) > 0 && one.Want <= slices.Max(one.Has) {
			t.Fatalf("%v: %v wants a zone that isn't above", h, one)
		}
	}
	if slices.Sort(held); len(slices.Compact(slices.Clone(held))) != len(held) {
		t.Fatalf("%v: a zone is held twice", h)
	}
	if got, e := Stuck(h); e != api.OK || len(got) != 0 {
		t.Fatalf("Stuck(%v): %v, %d", h, got, e)
	}
}

func TestP9_2_RisingIsSafeOfAllSmallWays(t *testing.T) {
	// Three holders, four zones, each zone held by one of them or by nobody; each wants any zone above, or none.
	for set := range 256 {
		h := make([]Holder, 3)
		for zone := range 4 {
			if by := set >> (2 * zone) & 3; by < 3 {
				h[by].Has = append(h[by].Has, zone)
			}
		}
		for wants := range 125 {
			rising := true
			for i, want := range []int{wants % 5, wants / 5 % 5, wants / 25} {
				h[i].Want = want - 1
				above := len(h[i].Has) == 0 || want-1 > slices.Max(h[i].Has)
				rising = rising && (want == 0 || above)
			}
			if rising {
				holdRising(t, h)
			}
		}
	}
}

func TestP9_2_RisingIsSafeOfManyWays(t *testing.T) {
	rnd := rand.New(rand.NewSource(95))
	for i := range 10000 {
		h := make([]Holder, 1+i%40)
		for _, zone := range rnd.Perm(api.MaxZone)[:rnd.Intn(api.MaxZone+1)] {
			by := rnd.Intn(min(len(h), 1+rnd.Intn(8)))
			h[by].Has = append(h[by].Has, zone)
		}
		for j := range h {
			least := 0
			if len(h[j].Has) > 0 {
				least = slices.Max(h[j].Has) + 1
			}
			h[j].Want = -1
			if least < api.MaxZone && rnd.Intn(8) > 0 {
				h[j].Want = least + rnd.Intn(api.MaxZone-least)
			}
		}
		rnd.Shuffle(len(h), func(i, j int) { h[i], h[j] = h[j], h[i] })
		holdRising(t, h)
	}
}

func TestP9_2_WhoHoldsByOrderIsNeverStuck(t *testing.T) {
	rnd := rand.New(rand.NewSource(96))
	for range 300 {
		// Each takes the zones of its row by Order, one by one, as they get free, and lets all of them go at the end.
		h := make([]Holder, 1+rnd.Intn(12))
		rows := make([][]int, len(h))
		for i := range h {
			var zones []int
			for range 1 + rnd.Intn(8) {
				zones = append(zones, rnd.Intn(api.MaxZone))
			}
			rows[i], _ = Order(zones)
			h[i].Want = rows[i][0]
		}
		for done := 0; done < len(h); {
			moved := false
			for _, i := range rnd.Perm(len(h)) {
				held := slices.ContainsFunc(h, func(o Holder) bool { return slices.Contains(o.Has, h[i].Want) })
				if h[i].Want < 0 || held {
					continue
				}
				moved = true
				h[i].Has = append(h[i].Has, h[i].Want)
				if len(h[i].Has) < len(rows[i]) {
					h[i].Want = rows[i][len(h[i].Has)]
				} else {
					h[i], done = Holder{Want: -1}, done+1
				}
				holdRising(t, h)
			}
			if !moved {
				t.Fatalf("%v: they wait for ever", h)
			}
		}
	}
	// One that takes its zones falling may be stuck with one that takes them rising.
	holdStuck(t, []Holder{holder(3, 1), holder(1, 3)}, true)
}

// roomyList hands out a list with spare room, and a function that tells whether all of it is as it was.
func roomyList[T comparable](list []T, spare T) ([]T, func() bool) {
	was := append(slices.Clone(list), spare, spare, spare)
	roomy := slices.Clone(was)
	return roomy[:len(list)], func() bool { return slices.Equal(roomy, was) }
}

func TestP9_3_LayoutsAndPathsStay(t *testing.T) {
	rnd := rand.New(rand.NewSource(97))
	for range 300 {
		l := chance(t, rnd, 2+rnd.Intn(12), rnd.Intn(40), 1+rnd.Intn(8))
		var row []int
		for range rnd.Intn(20) {
			row = append(row, 1+rnd.Intn(len(l.Edges)+1)) // some are no devices
		}
		nodes, nodesStay := roomyList(l.Nodes, api.Node{Name: "spare", Kind: 77})
		edges, edgesStay := roomyList(l.Edges, [2]int{77, 77})
		path, pathStays := roomyList(row, 77)
		handed := api.Layout{Nodes: nodes, Edges: edges}
		for n := range len(path) + 1 {
			Pieces(handed, path[:n])
			Zones(handed, path[:n])
		}
		if !nodesStay() || !edgesStay() || !pathStays() {
			t.Fatalf("%v, %v: what is handed in is changed", l, row)
		}
	}
}

func TestP9_3_ZonesAndHoldersStay(t *testing.T) {
	rnd := rand.New(rand.NewSource(98))
	same := func(a, b Holder) bool {
		return a.Want == b.Want && len(a.Has) == len(b.Has) && unsafe.SliceData(a.Has) == unsafe.SliceData(b.Has)
	}
	for i := range 500 {
		var list []int
		for range rnd.Intn(12) {
			list = append(list, rnd.Intn(9)) // some are no zones
		}
		zones, zonesStay := roomyList(list, 77)
		Order(zones)
		holders := chanceHolders(rnd, i%43, 7+i%3, 1+i%10)
		var stay []func() bool
		for j := range holders {
			has, hasStays := roomyList(holders[j].Has, 77)
			holders[j].Has, stay = has, append(stay, hasStays)
		}
		was := append(slices.Clone(holders), holder(77), holder(77))
		roomy := slices.Clone(was)
		Stuck(roomy[:len(holders)])
		if !zonesStay() || !slices.EqualFunc(roomy, was, same) {
			t.Fatalf("%v, %v: what is handed in is changed", list, holders)
		}
		for _, stays := range stay {
			if !stays() {
				t.Fatalf("%v: what a holder has is changed", holders)
			}
		}
	}
}

// overlap tells whether two lists share memory, spare room too.
func overlap[A, B any](a []A, b []B) bool {
	if cap(a) == 0 || cap(b) == 0 {
		return false
	}
	x, y := uintptr(unsafe.Pointer(unsafe.SliceData(a))), uintptr(unsafe.Pointer(unsafe.SliceData(b)))
	return x < y+uintptr(cap(b))*unsafe.Sizeof(b[:1][0]) && y < x+uintptr(cap(a))*unsafe.Sizeof(a[:1][0])
}

// scribble writes over a list, spare room too.
func scribble(list []int) {
	room := list[:cap(list)]
	for i := range room {
		room[i] = 99
	}
}

func TestP9_3_AnswersAreNewMemory(t *testing.T) {
	l := line(t, 0, 0, 0, 1, 2, 2, 2, 2, 2, 1, 1, 7)
	path := append(make([]int, 0, 40), whole(l)...)
	one := append(make([]int, 0, 40), 1, 2) // one piece alone
	zones := append(make([]int, 0, 40), 1, 4, 6)
	h := append(make([]Holder, 0, 40), holder(1, 0), holder(2, 1, 3), holder(0, 2, 4))
	in := [][]int{path, one, zones, h[0].Has, h[1].Has, h[2].Has}
	call := func() [][]int {
		var lists [][]int
		for _, row := range [][]int{path, one, path[2:4], nil} {
			pieces, _ := Pieces(l, row)
			if overlap(pieces, path) {
				t.Error("the list of pieces shares memory with the path")
			}
			for i, piece := range pieces {
				if overlap(pieces, piece) {
					t.Errorf("the list of pieces shares memory with the piece %d", i)
				}
			}
			of, _ := Zones(l, row)
			lists = append(append(lists, pieces...), of)
		}
		order, _ := Order(zones)
		stuck, _ := Stuck(h)
		return append(lists, order, stuck)
	}
	first := call()
	want := make([][]int, len(first))
	for i, list := range first {
		want[i] = slices.Clone(list)
	}
	second := call()
	all := append(slices.Clone(first), second...)
	for i, a := range all {
		for j, b := range append(slices.Clone(in), all[:i]...) {
			if overlap(a, b) {
				t.Errorf("the lists %d and %d share memory", i, j)
			}
		}
	}
	for i, list := range first {
		scribble(list)
		for j := i + 1; j < len(first); j++ {
			if !slices.Equal(first[j], want[j]) {
				t.Errorf("what is written over the list %d is seen in the list %d", i, j)
			}
		}
	}
	for i, list := range call() {
		if !slices.Equal(list, want[i]) || !slices.Equal(second[i], want[i]) {
			t.Errorf("answer %d hangs on an earlier one", i)
		}
	}
}

func TestP9_3_PiecesMayBeAppendedTo(t *testing.T) {
	l := line(t, 0, 1, 1, 1, 2, 2, 3)
	path := whole(l)
	pieces, _ := Pieces(l, path)
	for i := range pieces {
		pieces[i] = append(pieces[i], 90+i, 90+i, 90+i)
	}
	want := [][]int{{1, 2, 3, 90, 90, 90}, {4, 5, 91, 91, 91}, {6, 92, 92, 92}}
	if !slices.EqualFunc(pieces, want, slices.Equal[[]int]) || !slices.Equal(path, []int{1, 2, 3, 4, 5, 6}) {
		t.Errorf("%v, %v", pieces, path)
	}
}

func TestP9_3_NothingIsKept(t *testing.T) {
	l := line(t, 0, 0, 1, 2)
	path, zones, h := []int{1, 2, 3}, []int{4, 2}, []Holder{holder(1, 0), holder(0, 1)}
	pieces, _ := Pieces(l, path)
	of, _ := Zones(l, path)
	order, _ := Order(zones)
	stuck, _ := Stuck(h)
	l.Nodes[1].Zone, l.Edges[0], path[0], zones[0] = 5, [2]int{2, 1}, 3, 7
	h[0].Has[0], h[1].Want = 6, -1
	if !slices.EqualFunc(pieces, [][]int{{1}, {2}, {3}}, slices.Equal[[]int]) || !slices.Equal(of, []int{0, 1, 2}) {
		t.Errorf("pieces %v, zones %v", pieces, of)
	}
	if !slices.Equal(order, []int{2, 4}) || len(stuck) != 2 {
		t.Errorf("order %v, stuck %v", order, stuck)
	}
	if again, e := Zones(l, path); e != api.OK || !slices.Equal(again, []int{2, 1, 2}) {
		t.Errorf("zones of the other path: %v, %d", again, e)
	}
	if again, e := Order(zones); e != api.OK || !slices.Equal(again, []int{2, 7}) {
		t.Errorf("order of the other zones: %v, %d", again, e)
	}
	if again, e := Stuck(h); e != api.OK || len(again) != 0 {
		t.Errorf("stuck of the other holders: %v, %d", again, e)
	}
}

// The same is answered to the same, however often it is asked.
func TestP7_TheSameAnswers(t *testing.T) {
	rnd := rand.New(rand.NewSource(99))
	for range 200 {
		h := chanceHolders(rnd, 40, 8, 9)
		first, _ := Stuck(h)
		for range 3 {
			if again, e := Stuck(h); e != api.OK || !slices.Equal(first, again) {
				t.Fatalf("Stuck(%v): %v, then %v", h, first, again)
			}
		}
	}
}

// Many rows lead from zone to zone here: whoever went along each of them would never be done.
func TestP6_ManyRowsComeToAnEnd(t *testing.T) {
	var h []Holder
	for i := range 40 {
		zone := i % api.MaxZone
		h = append(h, Holder{Has: slices.Repeat([]int{zone}, 500), Want: zone + 1})
		if zone == 7 {
			h[i].Want = -1
		}
	}
	holdStuck(t, h, false)
	slices.Reverse(h)
	holdStuck(t, h, false)
	h[39].Has[499] = 7
	h[0].Want = 7
	holdStuck(t, h, true)
}

// Nothing is promised of what these answer, but that they do.
func TestP6_NoCallPanics(t *testing.T) {
	node := func(zone int) api.Node { return api.Node{Name: "a", Kind: api.NTrack, Zone: zone} }
	for _, l := range []api.Layout{
		{},
		{Edges: [][2]int{{0, 1}}},
		{Nodes: []api.Node{node(0), node(1)}, Edges: [][2]int{{0, 2}, {2, 1}, {-1, 0}, {0, -1}, {math.MaxInt, 0}, {0, math.MinInt}}},
		{Nodes: []api.Node{node(-1), node(8), node(math.MaxInt), node(math.MinInt)}, Edges: [][2]int{{0, 1}, {1, 2}, {2, 3}, {3, 0}}},
		{Nodes: make([]api.Node, 1000), Edges: make([][2]int, 1000)},
	} {
		for device := -1; device < 8; device++ {
			for _, path := range [][]int{{device}, {1, device}, {device, 1, 2, 3, 4}, {3, device, 3}} {
				Pieces(l, path)
				Zones(l, path)
			}
		}
	}
	for _, n := range []int{0, 1, 40, 41, 100000} {
		Stuck(make([]Holder, n))
		Order(make([]int, n))
		Stuck([]Holder{{Has: make([]int, n)}, {Has: make([]int, n), Want: 7}})
	}
}
