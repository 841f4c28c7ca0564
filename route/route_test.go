package route

import (
	"fmt"
	"math"
	"math/rand"
	"slices"
	"testing"
	"unsafe"

	"stillage/api"
	"stillage/layout"
)

// What a way is, written by the words of chapters 7 and 8, slow and plain, and apart from the program.

// row is a row of devices, and whether there is one.
type row struct {
	devices []int
	is      bool
}

// ahead tells whether a's first device that differs is less.
func ahead(a, b []int) bool {
	for i := range a {
		if a[i] != b[i] {
			return a[i] < b[i]
		}
	}
	return false
}

// rowsByWords tells for each length from 0 to the number of nodes, for each node, the first one of the rows of so
// many open edges from it to b, whose nodes between are tracks that aren't full.
func rowsByWords(l api.Layout, mask []int, b int, full []int) [][]row {
	n := len(l.Nodes)
	rows := make([][]row, n+1)
	rows[0] = make([]row, n)
	rows[0][b] = row{is: true}
	for length := 1; length <= n; length++ {
		rows[length] = make([]row, n)
		for i, e := range l.Edges {
			device, rest := i+1, rows[length-1][e[1]]
			if slices.Contains(mask, device) || !rest.is {
				continue
			}
			if length > 1 && (l.Nodes[e[1]].Kind != 1 || slices.Contains(full, e[1])) {
				continue
			}
			devices := append([]int{device}, rest.devices...)
			if so := rows[length][e[0]]; !so.is || ahead(devices, so.devices) {
				rows[length][e[0]] = row{devices, true}
			}
		}
	}
	return rows
}

// shortestByWords tells for each node the first one of the shortest rows that are so long at least.
func shortestByWords(l api.Layout, mask []int, b int, full []int, least int) []row {
	shortest := make([]row, len(l.Nodes))
	for _, rows := range rowsByWords(l, mask, b, full)[least:] {
		for a, r := range rows {
			if r.is && !shortest[a].is {
				shortest[a] = r
			}
		}
	}
	return shortest
}

// allRows visits each row of open edges from a to b, up to a length, one by one.
func allRows(l api.Layout, mask []int, a, b, most int, full []int, visit func([]int)) {
	var on func(at int, gone []int)
	on = func(at int, gone []int) {
		if at == b {
			visit(slices.Clone(gone))
		}
		if len(gone) == most || len(gone) > 0 && (l.Nodes[at].Kind != 1 || slices.Contains(full, at)) {
			return
		}
		for i, e := range l.Edges {
			if e[0] == at && !slices.Contains(mask, i+1) {
				on(e[1], append(slices.Clone(gone), i+1))
			}
		}
	}
	on(a, nil)
}

// firstOfAll is the first one of the shortest of all rows that are so long at least.
func firstOfAll(l api.Layout, mask []int, a, b int, full []int, least int) row {
	var first row
	allRows(l, mask, a, b, len(l.Nodes), full, func(devices []int) {
		if len(devices) < least {
			return
		}
		shorter := len(devices) < len(first.devices)
		if !first.is || shorter || len(devices) == len(first.devices) && ahead(devices, first.devices) {
			first = row{devices, true}
		}
	})
	return first
}

// same tells whether an answer is this row, or ErrWay where there is none.
func same(got []int, e api.Errno, want row) bool {
	if !want.is {
		return e == api.ErrWay && len(got) == 0
	}
	return e == api.OK && slices.Equal(got, want.devices)
}

// holdPair holds Path, Around and Walk from a to b against the words.
func holdPair(t *testing.T, l api.Layout, mask []int, a, b int, full []int, path, around row) {
	t.Helper()
	got, e := Path(l, mask, a, b)
	if !same(got, e, path) {
		t.Fatalf("Path(%v, %v, %d, %d): %v, %d; by the words %v", l, mask, a, b, got, e, path)
	}
	if got, e := Around(l, mask, a, b, nil); !same(got, e, path) {
		t.Fatalf("Around(%v, %v, %d, %d, none): %v, %d; by the words %v", l, mask, a, b, got, e, path)
	}
	if got, e := Around(l, mask, a, b, full); !same(got, e, around) {
		t.Fatalf("Around(%v, %v, %d, %d, %v): %v, %d; by the words %v", l, mask, a, b, full, got, e, around)
	}
	if at, e := Walk(l, a, got); path.is && (at != b || e != api.OK) {
		t.Fatalf("Walk(%v, %d, %v): %d, %d, not %d", l, a, got, at, e, b)
	}
}

// hold holds each call of each node and each pair of nodes against the words.
func hold(t *testing.T, l api.Layout, mask, full []int) {
	t.Helper()
	for b := range l.Nodes {
		ways := shortestByWords(l, mask, b, nil, 0)
		around := shortestByWords(l, mask, b, full, 0)
		want := make([]int, len(l.Nodes))
		for a := range l.Nodes {
			if a != b && ways[a].is {
				want[a] = ways[a].devices[0]
			}
			holdPair(t, l, mask, a, b, full, ways[a], around[a])
		}
		if got, e := Table(l, mask, b); e != api.OK || !slices.Equal(got, want) {
			t.Fatalf("Table(%v, %v, %d): %v, %d; by the words %v", l, mask, b, got, e, want)
		}
		loop := shortestByWords(l, mask, b, nil, 1)[b]
		if got, e := Loop(l, mask, b); !same(got, e, loop) {
			t.Fatalf("Loop(%v, %v, %d): %v, %d; by the words %v", l, mask, b, got, e, loop)
		}
	}
}

// build makes a layout of kinds: t a track, s a slot, p a station, g a gate.
func build(t testing.TB, kinds string, edges ...[2]int) api.Layout {
	t.Helper()
	var l api.Layout
	for i, k := range kinds {
		kind := map[rune]int{'t': api.NTrack, 's': api.NSlot, 'p': api.NStation, 'g': api.NGate}[k]
		l.Nodes = append(l.Nodes, api.Node{Name: fmt.Sprintf("n%d", i), Kind: kind})
	}
	l.Edges = append(l.Edges, edges...)
	if e := layout.Check(l); e != api.OK {
		t.Fatalf("%s %v is no layout", kinds, edges)
	}
	return l
}

// ring is a ring of n tracks.
func ring(t testing.TB, n int) api.Layout {
	var edges [][2]int
	kinds := ""
	for i := range n {
		kinds += "t"
		edges = append(edges, [2]int{i, (i + 1) % n})
	}
	return build(t, kinds, edges...)
}

// line is a line of n tracks, one way or both ways, with a slot at its beginning and a station at its end.
func line(t testing.TB, n int, both bool) api.Layout {
	kinds := "s"
	var edges [][2]int
	for i := range n + 1 {
		if i < n {
			kinds += "t"
		}
		edges = append(edges, [2]int{i, i + 1})
		if both {
			edges = append(edges, [2]int{i + 1, i})
		}
	}
	return build(t, kinds+"p", edges...)
}

// tree is a tree of tracks, both ways, with leaves of other kinds.
func tree(t testing.TB, rnd *rand.Rand) api.Layout {
	kinds := "t"
	var edges [][2]int
	for i := 1; i < 24; i++ {
		k := "t"
		if i > 9 {
			k = string("spg"[rnd.Intn(3)])
		}
		up := rnd.Intn(min(i, 10))
		kinds += k
		edges = append(edges, [2]int{up, i}, [2]int{i, up})
	}
	return build(t, kinds, edges...)
}

// net is a net of 5 by 4 tracks with edges in all four directions, in an order of rnd's choice, and with a slot, a
// station and a gate beside it.
func net(t testing.TB, rnd *rand.Rand) api.Layout {
	kinds := ""
	var edges [][2]int
	for i := range 20 {
		kinds += "t"
		if i%5 < 4 {
			edges = append(edges, [2]int{i, i + 1}, [2]int{i + 1, i})
		}
		if i < 15 {
			edges = append(edges, [2]int{i, i + 5}, [2]int{i + 5, i})
		}
	}
	edges = append(edges, [2]int{6, 20}, [2]int{20, 6}, [2]int{13, 21}, [2]int{21, 12}, [2]int{22, 0})
	rnd.Shuffle(len(edges), func(i, j int) { edges[i], edges[j] = edges[j], edges[i] })
	return build(t, kinds+"spg", edges...)
}

// store is a ring of tracks 0 to 3, with a gate 4, slots 5 and 6 and a station 7 beside it.
func store(t testing.TB) api.Layout {
	return build(t, "ttttgssp",
		[2]int{0, 1}, [2]int{1, 2}, [2]int{2, 3}, [2]int{3, 0}, // 1 to 4
		[2]int{4, 0},               // 5
		[2]int{1, 5}, [2]int{5, 1}, // 6, 7
		[2]int{2, 6}, [2]int{6, 3}, // 8, 9
		[2]int{3, 7}, [2]int{7, 0}) // 10, 11
}

// most has 40 nodes and 120 edges.
func most(t testing.TB, kind func(int) byte) api.Layout {
	kinds := ""
	for i := range api.MaxNode {
		kinds += string(kind(i))
	}
	var edges [][2]int
	for _, by := range []int{6, 39, 1} {
		for i := range api.MaxNode {
			edges = append(edges, [2]int{i, (i + by) % api.MaxNode})
		}
	}
	l := build(t, kinds, edges...)
	if len(l.Nodes) != 40 || len(l.Edges) != 120 {
		t.Fatal("not so many nodes and edges")
	}
	return l
}

// chance makes a layout, of rnd's choice, that is one.
func chance(t testing.TB, rnd *rand.Rand, nodes, edges int) api.Layout {
	kinds := ""
	for range nodes {
		kinds += string("tttttspg"[rnd.Intn(8)])
	}
	var pairs [][2]int
	for range edges {
		e := [2]int{rnd.Intn(nodes), rnd.Intn(nodes)}
		track := kinds[e[0]] == 't' || kinds[e[1]] == 't'
		if e[0] != e[1] && track && !slices.Contains(pairs, e) {
			pairs = append(pairs, e)
		}
	}
	return build(t, kinds, pairs...)
}

// chanceList makes a list of numbers about 0 to most, with some twice, in any order, and some outside.
func chanceList(rnd *rand.Rand, most int) []int {
	var list []int
	for range rnd.Intn(most/3 + 2) {
		list = append(list, rnd.Intn(most+3)-1)
	}
	return list
}

func TestP8_1_Example(t *testing.T) {
	l := ring(t, 3)
	if next, e := Table(l, nil, 2); e != api.OK || !slices.Equal(next, []int{1, 2, 0}) {
		t.Errorf("Table: %v, %d", next, e)
	}
	if path, e := Path(l, nil, 0, 2); e != api.OK || !slices.Equal(path, []int{1, 2}) {
		t.Errorf("Path: %v, %d", path, e)
	}
	if loop, e := Loop(l, nil, 0); e != api.OK || !slices.Equal(loop, []int{1, 2, 3}) {
		t.Errorf("Loop: %v, %d", loop, e)
	}
	if path, e := Around(l, nil, 0, 2, []int{1}); e != api.ErrWay || len(path) != 0 {
		t.Errorf("Around: %v, %d", path, e)
	}
}

func TestP8_1_TablesOfAStore(t *testing.T) {
	l := store(t)
	for _, c := range []struct {
		mask   []int
		target int
		want   []int
	}{
		{nil, 0, []int{0, 2, 3, 4, 5, 7, 9, 11}},
		{nil, 4, []int{0, 0, 0, 0, 0, 0, 0, 0}},
		{nil, 5, []int{1, 6, 3, 4, 5, 0, 9, 11}},
		{nil, 6, []int{1, 2, 8, 4, 5, 7, 0, 11}},
		{nil, 7, []int{1, 2, 3, 10, 5, 7, 9, 0}},
		// Behind the slot 6 goes 9, but no way leads through a slot.
		{[]int{3}, 7, []int{0, 0, 0, 10, 0, 0, 9, 0}},
		{[]int{3}, 6, []int{1, 2, 8, 4, 5, 7, 0, 11}},
		// Nor one through the station 7.
		{[]int{4}, 0, []int{0, 0, 0, 0, 5, 0, 0, 11}},
	} {
		if got, e := Table(l, c.mask, c.target); e != api.OK || !slices.Equal(got, c.want) {
			t.Errorf("Table(%v, %d): %v, %d, not %v", c.mask, c.target, got, e, c.want)
		}
	}
	hold(t, l, nil, nil)
}

func TestP8_1_PathsOfAStore(t *testing.T) {
	l := store(t)
	for _, c := range []struct {
		mask []int
		a, b int
		want []int
		e    api.Errno
	}{
		{nil, 4, 7, []int{5, 1, 2, 3, 10}, api.OK},
		{nil, 6, 7, []int{9, 10}, api.OK},
		{nil, 7, 6, []int{11, 1, 2, 8}, api.OK},
		{nil, 5, 6, []int{7, 2, 8}, api.OK},
		{nil, 6, 5, []int{9, 4, 1, 6}, api.OK},
		{nil, 0, 4, nil, api.ErrWay},
		{[]int{3}, 0, 3, nil, api.ErrWay},
		{[]int{3}, 6, 7, []int{9, 10}, api.OK},
		{[]int{10}, 4, 7, nil, api.ErrWay},
	} {
		got, e := Path(l, c.mask, c.a, c.b)
		if e != c.e || !slices.Equal(got, c.want) {
			t.Errorf("Path(%v, %d, %d): %v, %d, not %v, %d", c.mask, c.a, c.b, got, e, c.want, c.e)
		}
	}
}

func TestP8_1_TheFirstOneOfTheShortest(t *testing.T) {
	// From 0 to 3 by 1 or by 2; the edges' order decides.
	for _, c := range []struct {
		edges [][2]int
		want  []int
	}{
		{[][2]int{{0, 1}, {0, 2}, {1, 3}, {2, 3}}, []int{1, 3}},
		{[][2]int{{0, 1}, {0, 2}, {2, 3}, {1, 3}}, []int{1, 4}}, // the second device is greater, the first one less
		{[][2]int{{0, 2}, {0, 1}, {1, 3}, {2, 3}}, []int{1, 4}},
		{[][2]int{{1, 3}, {2, 3}, {0, 2}, {0, 1}}, []int{3, 2}},
		{[][2]int{{1, 3}, {2, 3}, {0, 1}, {0, 2}}, []int{3, 1}},
	} {
		l := build(t, "tttt", c.edges...)
		if got, e := Path(l, nil, 0, 3); e != api.OK || !slices.Equal(got, c.want) {
			t.Errorf("Path by %v: %v, %d, not %v", c.edges, got, e, c.want)
		}
		if got, e := Around(l, nil, 0, 3, []int{0, 3}); e != api.OK || !slices.Equal(got, c.want) {
			t.Errorf("Around by %v: %v, %d, not %v", c.edges, got, e, c.want)
		}
		if next, e := Table(l, nil, 3); e != api.OK || next[0] != c.want[0] {
			t.Errorf("Table by %v: %v, %d", c.edges, next, e)
		}
		hold(t, l, nil, []int{1})
	}
}

func TestP8_1_WaysThatDifferLater(t *testing.T) {
	// From 0 over 1 to 2 or 3, then to 4, then to 5.
	for _, c := range []struct {
		edges [][2]int
		want  []int
	}{
		{[][2]int{{0, 1}, {1, 2}, {1, 3}, {2, 4}, {3, 4}, {4, 5}}, []int{1, 2, 4, 6}},
		{[][2]int{{0, 1}, {1, 3}, {1, 2}, {2, 4}, {3, 4}, {4, 5}}, []int{1, 2, 5, 6}},
		{[][2]int{{4, 5}, {3, 4}, {2, 4}, {1, 2}, {1, 3}, {0, 1}}, []int{6, 4, 3, 1}},
		{[][2]int{{4, 5}, {3, 4}, {2, 4}, {1, 3}, {1, 2}, {0, 1}}, []int{6, 4, 2, 1}},
	} {
		l := build(t, "ttttts", c.edges...)
		if got, e := Path(l, nil, 0, 5); e != api.OK || !slices.Equal(got, c.want) {
			t.Errorf("Path by %v: %v, %d, not %v", c.edges, got, e, c.want)
		}
		next, e := Table(l, nil, 5)
		if e != api.OK || next[0] != c.want[0] || next[1] != c.want[1] || next[5] != 0 {
			t.Errorf("Table by %v: %v, %d", c.edges, next, e)
		}
		hold(t, l, nil, []int{2})
	}
}

func TestP8_1_ShorterGoesAheadOfFirst(t *testing.T) {
	// The devices 1, 2, 3 lead there too, but 4, 5 are fewer.
	l := build(t, "ttttt", [2]int{0, 1}, [2]int{1, 2}, [2]int{2, 4}, [2]int{0, 3}, [2]int{3, 4}, [2]int{4, 0})
	if got, e := Path(l, nil, 0, 4); e != api.OK || !slices.Equal(got, []int{4, 5}) {
		t.Errorf("Path: %v, %d", got, e)
	}
	if got, e := Loop(l, nil, 0); e != api.OK || !slices.Equal(got, []int{4, 5, 6}) {
		t.Errorf("Loop: %v, %d", got, e)
	}
	if got, e := Path(l, []int{5}, 0, 4); e != api.OK || !slices.Equal(got, []int{1, 2, 3}) {
		t.Errorf("Path with 5 out of order: %v, %d", got, e)
	}
	if got, e := Loop(l, []int{4}, 0); e != api.OK || !slices.Equal(got, []int{1, 2, 3, 6}) {
		t.Errorf("Loop with 4 out of order: %v, %d", got, e)
	}
	hold(t, l, nil, []int{3})
}

func TestP8_1_TableHasZeros(t *testing.T) {
	// The target 1, with an edge from it; 2 and 3 lead nowhere, 4 away from a node without a way.
	l := build(t, "ttttt", [2]int{0, 1}, [2]int{1, 0}, [2]int{1, 2}, [2]int{2, 3}, [2]int{4, 2})
	if got, e := Table(l, nil, 1); e != api.OK || !slices.Equal(got, []int{1, 0, 0, 0, 0}) {
		t.Errorf("%v, %d", got, e)
	}
	if got, e := Table(l, []int{1}, 1); e != api.OK || !slices.Equal(got, []int{0, 0, 0, 0, 0}) {
		t.Errorf("with 1 out of order: %v, %d", got, e)
	}
	if got, e := Table(build(t, "tsp"), nil, 1); e != api.OK || !slices.Equal(got, []int{0, 0, 0}) {
		t.Errorf("without edges: %v, %d", got, e)
	}
}

func TestP8_1_PathToItself(t *testing.T) {
	l := store(t)
	all := []int{1, 2, 3, 4, 5, 6, 7, 8, 9, 10, 11}
	for node := range l.Nodes {
		for _, mask := range [][]int{nil, {1, 5, 7, 9, 11}, all} {
			if path, e := Path(l, mask, node, node); e != api.OK || len(path) != 0 {
				t.Errorf("Path(%v, %d, %d): %v, %d", mask, node, node, path, e)
			}
			for _, full := range [][]int{nil, {node}, {0, 1, 2, 3, 4, 5, 6, 7}} {
				if path, e := Around(l, mask, node, node, full); e != api.OK || len(path) != 0 {
					t.Errorf("Around(%v, %d, %d, %v): %v, %d", mask, node, node, full, path, e)
				}
			}
		}
	}
}

func TestP8_1_NodesBetweenAreTracks(t *testing.T) {
	for _, between := range "spg" {
		l := build(t, "t"+string(between)+"t", [2]int{0, 1}, [2]int{1, 2}, [2]int{2, 0})
		if path, e := Path(l, nil, 0, 2); e != api.ErrWay || len(path) != 0 {
			t.Errorf("Path through %c: %v, %d", between, path, e)
		}
		if path, e := Around(l, nil, 0, 2, []int{0}); e != api.ErrWay || len(path) != 0 {
			t.Errorf("Around through %c: %v, %d", between, path, e)
		}
		if next, e := Table(l, nil, 2); e != api.OK || !slices.Equal(next, []int{0, 2, 0}) {
			t.Errorf("Table through %c: %v, %d", between, next, e)
		}
		if loop, e := Loop(l, nil, 0); e != api.ErrWay || len(loop) != 0 {
			t.Errorf("Loop through %c: %v, %d", between, loop, e)
		}
		if loop, e := Loop(l, nil, 1); e != api.OK || !slices.Equal(loop, []int{2, 3, 1}) {
			t.Errorf("Loop of %c: %v, %d", between, loop, e)
		}
		if at, e := Walk(l, 0, []int{1, 2, 3}); e != api.OK || at != 0 {
			t.Errorf("Walk through %c: %d, %d", between, at, e)
		}
		// The short way through it, of lesser devices, is none, the long one over tracks is one.
		l = build(t, "t"+string(between)+"ttt", [2]int{0, 1}, [2]int{1, 2}, [2]int{0, 3}, [2]int{3, 4}, [2]int{4, 2})
		if path, e := Path(l, nil, 0, 2); e != api.OK || !slices.Equal(path, []int{3, 4, 5}) {
			t.Errorf("Path past %c: %v, %d", between, path, e)
		}
		// 1 and 3 are as near to 2, but by 1 no way goes on.
		l = build(t, "t"+string(between)+"tt", [2]int{0, 1}, [2]int{1, 2}, [2]int{0, 3}, [2]int{3, 2}, [2]int{2, 0})
		if path, e := Path(l, nil, 0, 2); e != api.OK || !slices.Equal(path, []int{3, 4}) {
			t.Errorf("Path beside %c: %v, %d", between, path, e)
		}
		if next, e := Table(l, nil, 2); e != api.OK || !slices.Equal(next, []int{3, 2, 0, 4}) {
			t.Errorf("Table beside %c: %v, %d", between, next, e)
		}
		if loop, e := Loop(l, nil, 0); e != api.OK || !slices.Equal(loop, []int{3, 4, 5}) {
			t.Errorf("Loop beside %c: %v, %d", between, loop, e)
		}
		hold(t, l, nil, []int{3})
	}
}

func TestP8_1_EndsMayBeOfAnyKind(t *testing.T) {
	for _, a := range "tspg" {
		for _, b := range "tspg" {
			l := build(t, string(a)+"t"+string(b), [2]int{0, 1}, [2]int{1, 2})
			if path, e := Path(l, nil, 0, 2); e != api.OK || !slices.Equal(path, []int{1, 2}) {
				t.Errorf("Path %c to %c: %v, %d", a, b, path, e)
			}
			if next, e := Table(l, nil, 2); e != api.OK || !slices.Equal(next, []int{1, 2, 0}) {
				t.Errorf("Table %c to %c: %v, %d", a, b, next, e)
			}
			if path, e := Around(l, nil, 0, 2, []int{2, 0}); e != api.OK || !slices.Equal(path, []int{1, 2}) {
				t.Errorf("Around %c to %c: %v, %d", a, b, path, e)
			}
		}
	}
}

func TestP8_1_EdgesGoOneWay(t *testing.T) {
	l := build(t, "tt", [2]int{1, 0})
	if path, e := Path(l, nil, 1, 0); e != api.OK || !slices.Equal(path, []int{1}) {
		t.Errorf("Path there: %v, %d", path, e)
	}
	if path, e := Path(l, nil, 0, 1); e != api.ErrWay || len(path) != 0 {
		t.Errorf("Path back: %v, %d", path, e)
	}
	if at, e := Walk(l, 0, []int{1}); e != api.ErrWay || at != 0 {
		t.Errorf("Walk back: %d, %d", at, e)
	}
	for node := range l.Nodes {
		if loop, e := Loop(l, nil, node); e != api.ErrWay || len(loop) != 0 {
			t.Errorf("Loop(%d): %v, %d", node, loop, e)
		}
	}
}

func TestP8_1_Around(t *testing.T) {
	// From the slot 0 over 1 to the station 5: by 2 (1, 2, 3), or by 3 and 4 (1, 4, 5, 6); 7 leads back.
	l := build(t, "sttttp", [2]int{0, 1}, [2]int{1, 2}, [2]int{2, 5}, [2]int{1, 3}, [2]int{3, 4}, [2]int{4, 5}, [2]int{5, 1})
	short, long := []int{1, 2, 3}, []int{1, 4, 5, 6}
	for _, c := range []struct {
		what string
		full []int
		want []int
		e    api.Errno
	}{
		{"none", nil, short, api.OK},
		{"an empty list", []int{}, short, api.OK},
		{"what isn't on the path", []int{3, 4}, short, api.OK},
		{"a node of the path", []int{2}, long, api.OK},
		{"one node twice", []int{2, 2}, long, api.OK},
		{"b", []int{5}, short, api.OK},
		{"b, twice", []int{5, 5}, short, api.OK},
		{"b and a node of the path", []int{5, 2}, long, api.OK},
		{"a", []int{0}, short, api.OK},
		{"a and b", []int{0, 5}, short, api.OK},
		{"a, b and a node of the path", []int{5, 2, 0}, long, api.OK},
		{"a node of each path", []int{2, 4}, nil, api.ErrWay},
		{"the other node of the longer one", []int{3, 2}, nil, api.ErrWay},
		{"what all paths go by", []int{1}, nil, api.ErrWay},
		{"all nodes", []int{0, 1, 2, 3, 4, 5}, nil, api.ErrWay},
		{"all but the shorter way's", []int{0, 3, 4, 5}, short, api.OK},
		{"all but the longer way's", []int{5, 2, 0}, long, api.OK},
		{"what is no place", []int{-1, 6, 7, math.MaxInt, math.MinInt}, short, api.OK},
		{"what is no place and a node of the path", []int{6, -1, 2, 6}, long, api.OK},
	} {
		got, e := Around(l, nil, 0, 5, c.full)
		if e != c.e || !slices.Equal(got, c.want) {
			t.Errorf("%s full: %v, %d, not %v, %d", c.what, got, e, c.want, c.e)
		}
	}
	// A node is full, and a device of the way around it is out of order.
	if got, e := Around(l, []int{5}, 0, 5, []int{2}); e != api.ErrWay || len(got) != 0 {
		t.Errorf("with 5 out of order: %v, %d", got, e)
	}
	if got, e := Around(l, []int{2}, 0, 5, []int{0, 5}); e != api.OK || !slices.Equal(got, long) {
		t.Errorf("with 2 out of order: %v, %d", got, e)
	}
}

func TestP8_1_AroundOfAStore(t *testing.T) {
	// The way goes over 0 to 3; no way around one of these, and what stands beside it is in nobody's way.
	l := store(t)
	for full := range l.Nodes {
		got, e := Around(l, nil, 4, 7, []int{full})
		if full <= 3 && (e != api.ErrWay || len(got) != 0) {
			t.Errorf("%d full: %v, %d", full, got, e)
		}
		if full > 3 && (e != api.OK || !slices.Equal(got, []int{5, 1, 2, 3, 10})) {
			t.Errorf("%d full: %v, %d", full, got, e)
		}
		for mask := range len(l.Edges) + 2 {
			hold(t, l, []int{mask}, []int{full})
		}
	}
}

func TestP8_1_LoopsOfAStore(t *testing.T) {
	l := store(t)
	for _, c := range []struct {
		mask []int
		node int
		want []int
		e    api.Errno
	}{
		{nil, 0, []int{1, 2, 3, 4}, api.OK},
		{nil, 1, []int{2, 3, 4, 1}, api.OK}, // 6 and 7 go there and back, but by a slot
		{nil, 2, []int{3, 4, 1, 2}, api.OK},
		{nil, 3, []int{4, 1, 2, 3}, api.OK},
		{nil, 4, nil, api.ErrWay},
		{nil, 5, []int{7, 6}, api.OK},
		{nil, 6, []int{9, 4, 1, 2, 8}, api.OK},
		{nil, 7, []int{11, 1, 2, 3, 10}, api.OK},
		{[]int{4}, 0, nil, api.ErrWay},
		{[]int{4}, 7, []int{11, 1, 2, 3, 10}, api.OK},
		{[]int{6}, 5, nil, api.ErrWay},
		{[]int{7}, 5, nil, api.ErrWay},
		{[]int{3}, 6, []int{9, 4, 1, 2, 8}, api.OK},
		{[]int{3}, 2, nil, api.ErrWay},
	} {
		got, e := Loop(l, c.mask, c.node)
		if e != c.e || !slices.Equal(got, c.want) {
			t.Errorf("Loop(%v, %d): %v, %d, not %v, %d", c.mask, c.node, got, e, c.want, c.e)
		}
	}
}

func TestP8_1_LoopOfEachKind(t *testing.T) {
	for _, kind := range "tspg" {
		k := string(kind)
		// There and back.
		l := build(t, k+"t", [2]int{1, 0}, [2]int{0, 1})
		if got, e := Loop(l, nil, 0); e != api.OK || !slices.Equal(got, []int{2, 1}) {
			t.Errorf("%c: %v, %d", kind, got, e)
		}
		want := row{nil, false}
		if kind == 't' {
			want = row{[]int{1, 2}, true}
		}
		if got, e := Loop(l, nil, 1); !same(got, e, want) {
			t.Errorf("track beside %c: %v, %d", kind, got, e)
		}
		// One edge of the two alone: no loop.
		for mask := 1; mask <= 2; mask++ {
			if got, e := Loop(l, []int{mask}, 0); e != api.ErrWay || len(got) != 0 {
				t.Errorf("%c without %d: %v, %d", kind, mask, got, e)
			}
		}
		// Two loops of one length: the first one. Two loops that differ later: likewise.
		l = build(t, k+"tt", [2]int{2, 0}, [2]int{1, 0}, [2]int{0, 2}, [2]int{0, 1})
		if got, e := Loop(l, nil, 0); e != api.OK || !slices.Equal(got, []int{3, 1}) {
			t.Errorf("two loops of %c: %v, %d", kind, got, e)
		}
		l = build(t, k+"ttt", [2]int{3, 0}, [2]int{2, 0}, [2]int{1, 3}, [2]int{1, 2}, [2]int{0, 1})
		if got, e := Loop(l, nil, 0); e != api.OK || !slices.Equal(got, []int{5, 3, 1}) {
			t.Errorf("two loops of %c that differ later: %v, %d", kind, got, e)
		}
		if got, e := Loop(l, []int{1}, 0); e != api.OK || !slices.Equal(got, []int{5, 4, 2}) {
			t.Errorf("the other loop of %c: %v, %d", kind, got, e)
		}
		if got, e := Loop(build(t, k), nil, 0); e != api.ErrWay || len(got) != 0 {
			t.Errorf("%c alone: %v, %d", kind, got, e)
		}
	}
}

func TestP8_1_LoopOverAllNodes(t *testing.T) {
	for n := 2; n <= api.MaxNode; n++ {
		l := ring(t, n)
		for node := range n {
			got, e := Loop(l, nil, node)
			if e != api.OK || len(got) != n || got[0] != node+1 {
				t.Fatalf("ring of %d, Loop(%d): %v, %d", n, node, got, e)
			}
			if at, e := Walk(l, node, got); at != node || e != api.OK {
				t.Fatalf("ring of %d, Walk(%d, %v): %d, %d", n, node, got, at, e)
			}
		}
	}
}

func TestP8_1_Walk(t *testing.T) {
	l := store(t)
	for _, c := range []struct {
		what string
		node int
		path []int
		want int
		e    api.Errno
	}{
		{"nothing", 6, nil, 6, api.OK},
		{"nothing, an empty row", 6, []int{}, 6, api.OK},
		{"nothing, from the first", 0, nil, 0, api.OK},
		{"one", 4, []int{5}, 0, api.OK},
		{"the last device", 7, []int{11}, 0, api.OK},
		{"a path", 4, []int{5, 1, 2, 3, 10}, 7, api.OK},
		{"through a slot", 1, []int{2, 8, 9, 10}, 7, api.OK},
		{"through a slot and back", 1, []int{6, 7, 6, 7, 6}, 5, api.OK},
		{"through a station", 3, []int{10, 11, 1}, 1, api.OK},
		{"round and round", 2, []int{3, 4, 1, 2, 3, 4, 1, 2, 3}, 3, api.OK},
		{"no device 0", 0, []int{0}, 0, api.ErrWay},
		{"no device -1", 0, []int{-1}, 0, api.ErrWay},
		{"no device 12", 7, []int{12}, 0, api.ErrWay},
		{"no device, far away", 7, []int{math.MaxInt}, 0, api.ErrWay},
		{"no device, far below", 7, []int{math.MinInt}, 0, api.ErrWay},
		{"no device 0 behind others", 4, []int{5, 1, 0}, 0, api.ErrWay},
		{"no device -1 behind others", 4, []int{5, 1, -1}, 0, api.ErrWay},
		{"no device 12 behind others", 4, []int{5, 1, 12}, 0, api.ErrWay},
		{"no device ahead of others", 4, []int{0, 5, 1}, 0, api.ErrWay},
		{"not from the node", 4, []int{1}, 0, api.ErrWay},
		{"not from where the one ahead leads", 4, []int{5, 2, 3}, 0, api.ErrWay},
		{"at the end not from where the one ahead leads", 4, []int{5, 1, 3}, 0, api.ErrWay},
		{"one device twice", 4, []int{5, 1, 1}, 0, api.ErrWay},
		{"against the edge", 0, []int{5}, 0, api.ErrWay},
		{"the right devices in another order", 4, []int{1, 5}, 0, api.ErrWay},
	} {
		got, e := Walk(l, c.node, c.path)
		if got != c.want || e != c.e {
			t.Errorf("%s: Walk(%d, %v): %d, %d, not %d, %d", c.what, c.node, c.path, got, e, c.want, c.e)
		}
	}
}

func TestP8_1_WalkOfEachTwoDevices(t *testing.T) {
	l := store(t)
	for node := range l.Nodes {
		for one := -1; one <= len(l.Edges)+1; one++ {
			for two := -1; two <= len(l.Edges)+1; two++ {
				want, e := node, api.OK
				for _, device := range []int{one, two} {
					if device < 1 || device > 11 || l.Edges[device-1][0] != want {
						want, e = 0, api.ErrWay
						break
					}
					want = l.Edges[device-1][1]
				}
				if got, f := Walk(l, node, []int{one, two}); got != want || f != e {
					t.Errorf("Walk(%d, %d %d): %d, %d, not %d, %d", node, one, two, got, f, want, e)
				}
			}
		}
	}
}

func TestP8_1_WalkOfALongRow(t *testing.T) {
	l := ring(t, 3)
	var round []int
	for i := range 100001 {
		round = append(round, i%3+1)
	}
	if at, e := Walk(l, 0, round); at != 2 || e != api.OK {
		t.Errorf("%d, %d", at, e)
	}
	if at, e := Walk(l, 0, append(round, 1)); at != 0 || e != api.ErrWay {
		t.Errorf("%d, %d", at, e)
	}
}

func TestP8_1_Masks(t *testing.T) {
	l := net(t, rand.New(rand.NewSource(81)))
	var all []int
	for i := range l.Edges {
		all = append(all, i+1)
	}
	outside := []int{0, -1, len(all) + 1, 200, math.MaxInt, math.MinInt, -2}
	some := []int{2, 9, 30, 31, 64}
	back := slices.Clone(some)
	slices.Reverse(back)
	for _, c := range []struct{ mask, like []int }{
		{[]int{}, nil},
		{outside, nil},
		{back, some},
		{append(slices.Clone(some), some...), some},
		{append(slices.Clone(outside), back...), some},
		{append(slices.Clone(all), outside...), all},
	} {
		for b := range l.Nodes {
			got, _ := Table(l, c.mask, b)
			want, _ := Table(l, c.like, b)
			if !slices.Equal(got, want) {
				t.Fatalf("Table(%v, %d): %v, with %v: %v", c.mask, b, got, c.like, want)
			}
		}
		hold(t, l, c.mask, []int{7})
	}
	for a := range l.Nodes {
		if next, e := Table(l, all, a); e != api.OK || !slices.Equal(next, make([]int, len(l.Nodes))) {
			t.Errorf("with all out of order: Table(%d): %v, %d", a, next, e)
		}
		if loop, e := Loop(l, all, a); e != api.ErrWay || len(loop) != 0 {
			t.Errorf("with all out of order: Loop(%d): %v, %d", a, loop, e)
		}
		for b := range l.Nodes {
			if path, e := Path(l, all, a, b); len(path) != 0 || (e == api.OK) != (a == b) {
				t.Errorf("with all out of order: Path(%d, %d): %v, %d", a, b, path, e)
			}
		}
	}
}

func TestP8_1_EachDeviceIsItsEdges(t *testing.T) {
	l := store(t)
	for i, e := range l.Edges {
		device := i + 1
		if path, f := Path(l, nil, e[0], e[1]); f != api.OK || !slices.Equal(path, []int{device}) {
			t.Errorf("Path over %d: %v, %d", device, path, f)
		}
		if path, _ := Path(l, []int{device}, e[0], e[1]); slices.Contains(path, device) {
			t.Errorf("Path without %d: %v", device, path)
		}
		if next, _ := Table(l, []int{device}, e[1]); slices.Contains(next, device) {
			t.Errorf("Table without %d: %v", device, next)
		}
		if at, f := Walk(l, e[0], []int{device}); f != api.OK || at != e[1] {
			t.Errorf("Walk over %d: %d, %d", device, at, f)
		}
	}
}

func TestP8_1_LongLists(t *testing.T) {
	l := store(t)
	list := make([]int, 100000)
	for i := range list {
		list[i] = -i - 1
	}
	list[99999] = 2
	if path, e := Path(l, list, 0, 2); e != api.ErrWay || len(path) != 0 {
		t.Errorf("mask: %v, %d", path, e)
	}
	if path, e := Around(l, nil, 0, 3, list); e != api.ErrWay || len(path) != 0 {
		t.Errorf("full: %v, %d", path, e)
	}
	if path, e := Around(l, nil, 0, 2, list); e != api.OK || !slices.Equal(path, []int{1, 2}) {
		t.Errorf("full at b: %v, %d", path, e)
	}
}

func TestP8_1_OneNode(t *testing.T) {
	for _, kind := range "tspg" {
		l := build(t, string(kind))
		if next, e := Table(l, nil, 0); e != api.OK || !slices.Equal(next, []int{0}) {
			t.Errorf("Table: %v, %d", next, e)
		}
		if path, e := Path(l, nil, 0, 0); e != api.OK || len(path) != 0 {
			t.Errorf("Path: %v, %d", path, e)
		}
		if path, e := Around(l, []int{1}, 0, 0, []int{0}); e != api.OK || len(path) != 0 {
			t.Errorf("Around: %v, %d", path, e)
		}
		if loop, e := Loop(l, nil, 0); e != api.ErrWay || len(loop) != 0 {
			t.Errorf("Loop: %v, %d", loop, e)
		}
		if at, e := Walk(l, 0, nil); e != api.OK || at != 0 {
			t.Errorf("Walk of nothing: %d, %d", at, e)
		}
		if at, e := Walk(l, 0, []int{1}); e != api.ErrWay || at != 0 {
			t.Errorf("Walk: %d, %d", at, e)
		}
	}
}

func TestP8_1_MostNodesAndEdges(t *testing.T) {
	tracks := most(t, func(int) byte { return 't' })
	mixed := most(t, func(i int) byte {
		if i%4 == 1 { // of steps of 1, 39 and 6 none goes from one of these to another
			return "spg"[i/4%3]
		}
		return 't'
	})
	var all []int
	for device := range api.MaxEdge {
		all = append(all, device+1)
	}
	for _, l := range []api.Layout{tracks, mixed} {
		for _, mask := range [][]int{nil, all[:40], all[40:], all[10:90], all[:119], all} {
			hold(t, l, mask, []int{2, 7, 16, 35, 39, 40})
		}
	}
	// The device 120 leads from 39 to 0; round the ring 40 edges lead.
	if loop, e := Loop(tracks, all[:80], 39); e != api.OK || len(loop) != 40 || loop[0] != 120 || loop[39] != 119 {
		t.Errorf("Loop: %v, %d", loop, e)
	}
	if at, e := Walk(tracks, 39, []int{120}); e != api.OK || at != 0 {
		t.Errorf("Walk: %d, %d", at, e)
	}
	if at, e := Walk(tracks, 39, []int{121}); e != api.ErrWay || at != 0 {
		t.Errorf("Walk of 121: %d, %d", at, e)
	}
}

func TestP8_1_NoPlace(t *testing.T) {
	apart := build(t, "tsp")
	for _, l := range []api.Layout{build(t, "t"), apart, ring(t, 3), store(t), most(t, func(int) byte { return 't' })} {
		n := len(l.Nodes)
		for _, wrong := range []int{-1, n, n + 1, -2, math.MaxInt, math.MinInt, 1 << 32, -n} {
			for _, list := range [][]int{nil, {1}, {0, 1, 2, wrong}} {
				if next, e := Table(l, list, wrong); e != api.ErrRange || len(next) != 0 {
					t.Errorf("Table(%d) of %d nodes: %v, %d", wrong, n, next, e)
				}
				if loop, e := Loop(l, list, wrong); e != api.ErrRange || len(loop) != 0 {
					t.Errorf("Loop(%d) of %d nodes: %v, %d", wrong, n, loop, e)
				}
				if at, e := Walk(l, wrong, list); e != api.ErrRange || at != 0 {
					t.Errorf("Walk(%d, %v) of %d nodes: %d, %d", wrong, list, n, at, e)
				}
				for _, ends := range [][2]int{{wrong, 0}, {0, wrong}, {n - 1, wrong}, {wrong, n - 1}, {wrong, wrong}, {wrong, -1}, {n, wrong}} {
					if path, e := Path(l, list, ends[0], ends[1]); e != api.ErrRange || len(path) != 0 {
						t.Errorf("Path(%v) of %d nodes: %v, %d", ends, n, path, e)
					}
					if path, e := Around(l, nil, ends[0], ends[1], list); e != api.ErrRange || len(path) != 0 {
						t.Errorf("Around(%v, %v) of %d nodes: %v, %d", ends, list, n, path, e)
					}
				}
			}
		}
		for _, right := range []int{0, n - 1} {
			if next, e := Table(l, nil, right); e != api.OK || len(next) != n || next[right] != 0 {
				t.Errorf("Table(%d) of %d nodes: %v, %d", right, n, next, e)
			}
			if _, e := Loop(l, nil, right); e == api.ErrRange {
				t.Errorf("Loop(%d) of %d nodes: %d", right, n, e)
			}
			if at, e := Walk(l, right, nil); e != api.OK || at != right {
				t.Errorf("Walk(%d) of %d nodes: %d, %d", right, n, at, e)
			}
			if _, e := Path(l, nil, right, 0); e == api.ErrRange {
				t.Errorf("Path(%d, 0) of %d nodes: %d", right, n, e)
			}
			if _, e := Around(l, nil, 0, right, nil); e == api.ErrRange {
				t.Errorf("Around(0, %d) of %d nodes: %d", right, n, e)
			}
		}
	}
}

// holdAll holds each call against all rows there are, one by one: of small layouts alone.
func holdAll(t *testing.T, l api.Layout, mask, full []int) {
	t.Helper()
	for b := range l.Nodes {
		next, e := Table(l, mask, b)
		if e != api.OK || len(next) != len(l.Nodes) {
			t.Fatalf("Table(%v, %v, %d): %v, %d", l, mask, b, next, e)
		}
		for a := range l.Nodes {
			path := firstOfAll(l, mask, a, b, nil, 0)
			want := 0
			if len(path.devices) > 0 {
				want = path.devices[0]
			}
			if next[a] != want {
				t.Fatalf("Table(%v, %v, %d): %v, but from %d %v", l, mask, b, next, a, path)
			}
			holdPair(t, l, mask, a, b, full, path, firstOfAll(l, mask, a, b, full, 0))
		}
		loop := firstOfAll(l, mask, b, b, nil, 1)
		if got, e := Loop(l, mask, b); !same(got, e, loop) {
			t.Fatalf("Loop(%v, %v, %d): %v, %d, not %v", l, mask, b, got, e, loop)
		}
	}
}

func TestP8_1_AllSmallLayouts(t *testing.T) {
	pairs := [][2]int{{2, 1}, {0, 1}, {1, 2}, {2, 0}, {1, 0}, {0, 2}}
	for _, a := range "tspg" {
		for _, b := range "tspg" {
			for _, c := range "tspg" {
				kinds := string(a) + string(b) + string(c)
				for set := range 1 << len(pairs) {
					var edges [][2]int
					for i, e := range pairs {
						if set>>i&1 == 1 && (kinds[e[0]] == 't' || kinds[e[1]] == 't') {
							edges = append(edges, e)
						}
					}
					l := build(t, kinds, edges...)
					for device := range len(edges) + 1 {
						holdAll(t, l, []int{device}, []int{(device + set) % 3})
					}
				}
			}
		}
	}
}

func TestP8_1_ManySmallLayouts(t *testing.T) {
	rnd := rand.New(rand.NewSource(82))
	for range 1500 {
		n := 4 + rnd.Intn(3)
		l := chance(t, rnd, n, rnd.Intn(3*n))
		rnd.Shuffle(len(l.Edges), func(i, j int) { l.Edges[i], l.Edges[j] = l.Edges[j], l.Edges[i] })
		holdAll(t, l, chanceList(rnd, len(l.Edges)), chanceList(rnd, n))
	}
}

func TestP8_1_ManyLayouts(t *testing.T) {
	rnd := rand.New(rand.NewSource(83))
	for i := range 300 {
		n := 1 + rnd.Intn(14)
		if i%20 == 0 {
			n = api.MaxNode
		}
		l := chance(t, rnd, n, rnd.Intn(3*n+1))
		hold(t, l, chanceList(rnd, len(l.Edges)), chanceList(rnd, n))
		hold(t, l, nil, chanceList(rnd, n))
	}
}

func TestP8_1_RingsLinesTreesAndNets(t *testing.T) {
	rnd := rand.New(rand.NewSource(84))
	for n := 2; n <= 10; n++ {
		for device := range n + 2 {
			hold(t, ring(t, n), []int{device}, []int{device})
			hold(t, line(t, n, false), []int{device}, []int{n / 2})
			hold(t, line(t, n, true), []int{device}, []int{n / 2})
		}
	}
	for range 10 {
		l := tree(t, rnd)
		hold(t, l, nil, chanceList(rnd, len(l.Nodes)/3))
		hold(t, l, chanceList(rnd, len(l.Edges)/2), chanceList(rnd, len(l.Nodes)/3))
		l = net(t, rnd)
		hold(t, l, nil, chanceList(rnd, len(l.Nodes)))
		hold(t, l, chanceList(rnd, len(l.Edges)), chanceList(rnd, len(l.Nodes)/2))
	}
}

// lengthByWords is the length of the shortest way from a to b, or -1.
func lengthByWords(l api.Layout, mask []int, a, b int) int {
	reached, seen := []int{a}, []int{a}
	for length := 0; len(reached) > 0; length++ {
		var next []int
		for _, node := range reached {
			if node == b {
				return length
			}
			if length > 0 && l.Nodes[node].Kind != api.NTrack {
				continue
			}
			for i, e := range l.Edges {
				if e[0] == node && !slices.Contains(mask, i+1) && !slices.Contains(seen, e[1]) {
					next, seen = append(next, e[1]), append(seen, e[1])
				}
			}
		}
		reached = next
	}
	return -1
}

// holdGoing goes by the table of each target from each node, as far as it leads.
func holdGoing(t *testing.T, l api.Layout, mask []int) {
	t.Helper()
	for target := range l.Nodes {
		next, e := Table(l, mask, target)
		if e != api.OK || next[target] != 0 {
			t.Fatalf("Table(%v, %v, %d): %v, %d", l, mask, target, next, e)
		}
		for node := range l.Nodes {
			at, gone := node, 0
			for next[at] != 0 && gone <= len(l.Nodes) {
				edge := l.Edges[next[at]-1]
				if edge[0] != at || slices.Contains(mask, next[at]) {
					t.Fatalf("%v, %v: at %d the table of %d tells %d", l, mask, at, target, next[at])
				}
				at, gone = edge[1], gone+1
				if at != target && l.Nodes[at].Kind != api.NTrack {
					t.Fatalf("%v, %v: from %d to %d the table %v leads over %d", l, mask, node, target, next, at)
				}
			}
			want := lengthByWords(l, mask, node, target)
			if want >= 0 && (at != target || gone != want) || want < 0 && gone != 0 {
				t.Fatalf("%v, %v: from %d to %d the table %v leads to %d by %d edges, not by %d", l, mask, node, target, next, at, gone, want)
			}
		}
	}
}

func TestP8_2_WhoGoesByTheTableIsThere(t *testing.T) {
	rnd := rand.New(rand.NewSource(85))
	for i := range 400 {
		n := 1 + rnd.Intn(20)
		if i%20 == 0 {
			n = api.MaxNode
		}
		l := chance(t, rnd, n, rnd.Intn(min(4*n, api.MaxEdge)+1))
		holdGoing(t, l, nil)
		holdGoing(t, l, chanceList(rnd, len(l.Edges)))
	}
	for range 10 {
		for _, l := range []api.Layout{tree(t, rnd), net(t, rnd), store(t), line(t, 6, true), ring(t, 9)} {
			holdGoing(t, l, nil)
			holdGoing(t, l, chanceList(rnd, len(l.Edges)))
		}
	}
}

func TestP8_2_TheTableGoesAsThePath(t *testing.T) {
	rnd := rand.New(rand.NewSource(86))
	for range 40 {
		l := net(t, rnd)
		mask := chanceList(rnd, len(l.Edges))
		for b := range l.Nodes {
			next, _ := Table(l, mask, b)
			for a := range l.Nodes {
				path, e := Path(l, mask, a, b)
				at := a
				for _, device := range path {
					if next[at] != device {
						t.Fatalf("%v, %v: Path(%d, %d) is %v, but the table %v", l, mask, a, b, path, next)
					}
					at = l.Edges[device-1][1]
				}
				if (e == api.OK) != (at == b) {
					t.Fatalf("%v, %v: Path(%d, %d): %v, %d", l, mask, a, b, path, e)
				}
			}
		}
	}
}

// roomyList hands out a list with spare room, and a function that tells whether all of it is as it was.
func roomyList[T comparable](list []T, spare T) ([]T, func() bool) {
	was := append(slices.Clone(list), spare, spare, spare)
	roomy := slices.Clone(was)
	return roomy[:len(list)], func() bool { return slices.Equal(roomy, was) }
}

func TestP8_3_WhatIsHandedInStays(t *testing.T) {
	rnd := rand.New(rand.NewSource(87))
	for i := range 100 {
		l := store(t)
		if i > 0 {
			l = chance(t, rnd, 1+rnd.Intn(12), rnd.Intn(30))
		}
		nodes, nodesStay := roomyList(l.Nodes, api.Node{Name: "spare", Kind: 77})
		edges, edgesStay := roomyList(l.Edges, [2]int{77, 77})
		mask, maskStays := roomyList(chanceList(rnd, len(l.Edges)), 77)
		full, fullStays := roomyList(chanceList(rnd, len(l.Nodes)), 77)
		row, rowStays := roomyList(append([]int{1, 2, 3}, chanceList(rnd, len(l.Edges))...), 77)
		handed := api.Layout{Nodes: nodes, Edges: edges}
		for a := -1; a <= len(l.Nodes); a++ {
			Table(handed, mask, a)
			Loop(handed, mask, a)
			Walk(handed, a, row)
			for b := -1; b <= len(l.Nodes); b++ {
				Path(handed, mask, a, b)
				Around(handed, mask, a, b, full)
			}
		}
		if !nodesStay() || !edgesStay() || !maskStays() || !fullStays() || !rowStays() {
			t.Fatalf("%v, %v, %v, %v: what is handed in is changed", l, mask, full, row)
		}
	}
}

func TestP8_3_OneListForAll(t *testing.T) {
	l := store(t)
	list, stays := roomyList([]int{6, 7, 8}, 1)
	if path, e := Around(l, list, 4, 7, list); e != api.OK || !slices.Equal(path, []int{5, 1, 2, 3, 10}) {
		t.Errorf("Around: %v, %d", path, e)
	}
	if !stays() {
		t.Error("the list is changed")
	}
}

// overlap tells whether two lists share memory, spare room too.
func overlap(a, b []int) bool {
	if cap(a) == 0 || cap(b) == 0 {
		return false
	}
	x, y := uintptr(unsafe.Pointer(unsafe.SliceData(a))), uintptr(unsafe.Pointer(unsafe.SliceData(b)))
	return x < y+uintptr(cap(b))*8 && y < x+uintptr(cap(a))*8
}

func TestP8_3_AnswersAreNewMemory(t *testing.T) {
	l := store(t)
	mask, full := append(make([]int, 0, 40), 12, 0, 12), append(make([]int, 0, 40), 5, 6)
	call := func() [][]int {
		var lists [][]int
		for a := range l.Nodes {
			next, _ := Table(l, mask, a)
			loop, _ := Loop(l, mask, a)
			lists = append(lists, next, loop)
			for b := range l.Nodes {
				path, _ := Path(l, mask, a, b)
				around, _ := Around(l, mask, a, b, full)
				plain, _ := Around(l, nil, a, b, nil)
				lists = append(lists, path, around, plain)
			}
		}
		return lists
	}
	first := call()
	want := make([][]int, len(first))
	for i, list := range first {
		want[i] = slices.Clone(list)
	}
	second := call()
	all := append(slices.Clone(first), second...)
	for i, a := range all {
		if overlap(a, mask) || overlap(a, full) {
			t.Errorf("answer %d shares memory with what is handed in", i)
		}
		for j, b := range all[:i] {
			if overlap(a, b) {
				t.Errorf("answers %d and %d share memory", j, i)
			}
		}
	}
	for _, list := range first {
		room := list[:cap(list)]
		for i := range room {
			room[i] = 99
		}
	}
	for i, list := range call() {
		if !slices.Equal(list, want[i]) || !slices.Equal(second[i], want[i]) {
			t.Errorf("answer %d hangs on an earlier one", i)
		}
	}
}

func TestP8_3_NothingIsKept(t *testing.T) {
	l, other := store(t), ring(t, 5)
	mask, full := []int{4}, []int{5}
	before, _ := Around(l, mask, 4, 7, full)
	mask[0], full[0] = 1, 2
	Table(other, []int{2}, 3)
	Path(other, nil, 1, 0)
	Loop(other, nil, 1)
	Walk(other, 0, []int{1, 2})
	after, _ := Around(l, []int{4}, 4, 7, []int{5})
	if !slices.Equal(before, after) || !slices.Equal(after, []int{5, 1, 2, 3, 10}) {
		t.Errorf("%v, then %v", before, after)
	}
}

// Nothing is promised of what these answer, but that they do.
func TestP6_NoCallPanics(t *testing.T) {
	node := func(kind int) api.Node { return api.Node{Name: "a", Kind: kind} }
	numbers := []int{math.MinInt, -1, 0, 1, 2, 999, math.MaxInt}
	for _, l := range []api.Layout{
		{},
		{Edges: [][2]int{{0, 1}}},
		{Nodes: []api.Node{node(1), node(1)}, Edges: [][2]int{{0, 2}, {2, 1}, {-1, 0}, {0, -1}, {math.MaxInt, 0}, {0, math.MinInt}}},
		{Nodes: []api.Node{node(1), node(4), node(2)}, Edges: [][2]int{{0, 0}, {0, 1}, {0, 1}, {1, 1}, {1, 2}, {2, 3}}},
		{Nodes: []api.Node{node(0), node(5), node(-1), node(math.MaxInt)}, Edges: [][2]int{{0, 1}, {1, 2}, {2, 3}, {3, 0}}},
		{Nodes: make([]api.Node, 1000), Edges: make([][2]int, 1000)},
	} {
		for _, list := range [][]int{nil, {1}, {1, 1}, {2, 1}, {6, 5}, {-1, 0, 1, 2, 7, math.MaxInt, math.MinInt}} {
			for _, a := range numbers {
				Table(l, list, a)
				Loop(l, list, a)
				Walk(l, a, list)
				for _, b := range numbers {
					Path(l, list, a, b)
					Around(l, list, a, b, numbers)
					Around(l, nil, a, b, list)
				}
			}
		}
	}
}
