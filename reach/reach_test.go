package reach

import (
	"fmt"
	"math"
	"math/rand"
	"slices"
	"testing"
	"unsafe"

	"stillage/api"
	"stillage/layout"
)

// What a way is, written by the chapter's words, slow and plain, and apart from the program.

func openByWords(mask []int, device int) bool {
	for _, m := range mask {
		if m == device {
			return false
		}
	}
	return true
}

// lengthsByWords tells for each two nodes the length of the shortest way from the first to the second, or -1.
func lengthsByWords(l api.Layout, mask []int) [][]int {
	n := len(l.Nodes)
	shortest := table(n, -1)
	row := table(n, 0) // row[a][b] is 1, if a row of so many open edges goes from a to b, with tracks between
	for a := range n {
		row[a][a], shortest[a][a] = 1, 0
	}
	var open [][2]int
	for i, e := range l.Edges {
		if openByWords(mask, i+1) {
			open = append(open, e)
		}
	}
	for length := 1; length <= n; length++ {
		longer := table(n, 0)
		for _, e := range open {
			if length == 1 {
				longer[e[0]][e[1]] = 1
				continue
			}
			if l.Nodes[e[1]].Kind != 1 {
				continue
			}
			for b := range n {
				if row[e[1]][b] == 1 {
					longer[e[0]][b] = 1
				}
			}
		}
		row = longer
		for a := range n {
			for b := range n {
				if row[a][b] == 1 && shortest[a][b] < 0 {
					shortest[a][b] = length
				}
			}
		}
	}
	return shortest
}

func table(n, value int) [][]int {
	t := make([][]int, n)
	for i := range t {
		t[i] = make([]int, n)
		for j := range t[i] {
			t[i][j] = value
		}
	}
	return t
}

// cutsByWords tells for each two nodes the devices without which there would be no way.
func cutsByWords(l api.Layout, mask []int) [][][]int {
	n := len(l.Nodes)
	cuts := make([][][]int, n)
	for a := range cuts {
		cuts[a] = make([][]int, n)
	}
	with := lengthsByWords(l, mask)
	for device := 1; device <= len(l.Edges); device++ {
		if !openByWords(mask, device) {
			continue
		}
		without := lengthsByWords(l, append(slices.Clone(mask), device))
		for a := range n {
			for b := range n {
				if a != b && with[a][b] >= 0 && without[a][b] < 0 {
					cuts[a][b] = append(cuts[a][b], device)
				}
			}
		}
	}
	return cuts
}

func wholeByWords(l api.Layout, mask []int) bool {
	far := lengthsByWords(l, mask)
	for a, from := range l.Nodes {
		for b, to := range l.Nodes {
			gate, slot := from.Kind == 4, from.Kind == 2
			if to.Kind == 3 && (gate || slot) && far[a][b] < 0 {
				return false
			}
			if to.Kind == 2 && gate && far[a][b] < 0 {
				return false
			}
		}
	}
	return true
}

// hold holds each call of each node against the words.
func hold(t *testing.T, l api.Layout, mask []int) {
	t.Helper()
	far := lengthsByWords(l, mask)
	for a := range l.Nodes {
		from, e := From(l, mask, a)
		if e != api.OK || !slices.Equal(from, far[a]) {
			t.Fatalf("From(%v, %v, %d): %v, %d; by the words %v", l, mask, a, from, e, far[a])
		}
		want := make([]int, len(l.Nodes))
		for b := range want {
			want[b] = far[b][a]
		}
		to, e := To(l, mask, a)
		if e != api.OK || !slices.Equal(to, want) {
			t.Fatalf("To(%v, %v, %d): %v, %d; by the words %v", l, mask, a, to, e, want)
		}
	}
	if got, want := Whole(l, mask), wholeByWords(l, mask); got != want {
		t.Fatalf("Whole(%v, %v): %v", l, mask, got)
	}
}

func holdCut(t *testing.T, l api.Layout, mask []int) {
	t.Helper()
	cuts := cutsByWords(l, mask)
	for a := range l.Nodes {
		for b := range l.Nodes {
			got, e := Cut(l, mask, a, b)
			if e != api.OK || !slices.Equal(got, cuts[a][b]) {
				t.Fatalf("Cut(%v, %v, %d, %d): %v, %d; by the words %v", l, mask, a, b, got, e, cuts[a][b])
			}
		}
	}
}

// build makes a layout of kinds: t a track, s a slot, p a station, g a gate.
func build(t testing.TB, kinds string, edges ...[2]int) api.Layout {
	t.Helper()
	var l api.Layout
	for i, k := range kinds {
		kind := map[rune]int{'t': api.NTrack, 's': api.NSlot, 'p': api.NStation, 'g': api.NGate}[k]
		l.Nodes = append(l.Nodes, api.Node{Name: fmt.Sprintf("n%d", i), Kind: kind})
	}
	l.Edges = append(l.Edges, edges...)
	if e := layout.Check(l); e != api.OK {
		t.Fatalf("%s %v is no layout", kinds, edges)
	}
	return l
}

// ring is a ring of n tracks.
func ring(t testing.TB, n int) api.Layout {
	var edges [][2]int
	kinds := ""
	for i := range n {
		kinds += "t"
		edges = append(edges, [2]int{i, (i + 1) % n})
	}
	return build(t, kinds, edges...)
}

// store is a ring of tracks 0 to 3, with a gate 4, slots 5 and 6 and a station 7 beside it.
func store(t testing.TB) api.Layout {
	return build(t, "ttttgssp",
		[2]int{0, 1}, [2]int{1, 2}, [2]int{2, 3}, [2]int{3, 0}, // 1 to 4
		[2]int{4, 0},               // 5
		[2]int{1, 5}, [2]int{5, 1}, // 6, 7
		[2]int{2, 6}, [2]int{6, 3}, // 8, 9
		[2]int{3, 7}, [2]int{7, 0}) // 10, 11
}

// chance makes a layout, of rnd's choice, that is one.
func chance(t testing.TB, rnd *rand.Rand, nodes, edges int) api.Layout {
	kinds := ""
	for range nodes {
		kinds += string("tttttspg"[rnd.Intn(8)])
	}
	var pairs [][2]int
	for range edges {
		e := [2]int{rnd.Intn(nodes), rnd.Intn(nodes)}
		track := kinds[e[0]] == 't' || kinds[e[1]] == 't'
		if e[0] != e[1] && track && !slices.Contains(pairs, e) {
			pairs = append(pairs, e)
		}
	}
	return build(t, kinds, pairs...)
}

// chanceMask makes a mask, with numbers twice, in any order, and some that are no device.
func chanceMask(rnd *rand.Rand, l api.Layout) []int {
	var mask []int
	for range rnd.Intn(len(l.Edges)/2 + 2) {
		mask = append(mask, rnd.Intn(len(l.Edges)+3)-1)
	}
	return mask
}

func TestP7_1_Example(t *testing.T) {
	l := ring(t, 3)
	if far, e := From(l, nil, 0); e != api.OK || !slices.Equal(far, []int{0, 1, 2}) {
		t.Errorf("From: %v, %d", far, e)
	}
	if far, e := From(l, []int{2}, 0); e != api.OK || !slices.Equal(far, []int{0, 1, -1}) {
		t.Errorf("From with 2 out of order: %v, %d", far, e)
	}
	if cut, e := Cut(l, nil, 0, 2); e != api.OK || !slices.Equal(cut, []int{1, 2}) {
		t.Errorf("Cut: %v, %d", cut, e)
	}
}

func TestP7_1_LengthsOfAStore(t *testing.T) {
	l := store(t)
	for _, c := range []struct {
		mask     []int
		node     int
		from, to []int
	}{
		{nil, 0, []int{0, 1, 2, 3, -1, 2, 3, 4}, []int{0, 3, 2, 1, 1, 4, 2, 1}},
		{nil, 4, []int{1, 2, 3, 4, 0, 3, 4, 5}, []int{-1, -1, -1, -1, 0, -1, -1, -1}},
		{nil, 5, []int{4, 1, 2, 3, -1, 0, 3, 4}, []int{2, 1, 4, 3, 3, 0, 4, 3}},
		{nil, 6, []int{2, 3, 4, 1, -1, 4, 0, 2}, []int{3, 2, 1, 4, 4, 3, 0, 4}},
		{nil, 7, []int{1, 2, 3, 4, -1, 3, 4, 0}, []int{4, 3, 2, 1, 5, 4, 2, 0}},
		// Behind the slot 6 goes 9, but no way leads through a slot.
		{[]int{3}, 0, []int{0, 1, 2, -1, -1, 2, 3, -1}, []int{0, -1, -1, 1, 1, -1, 2, 1}},
		{[]int{3}, 6, []int{2, 3, 4, 1, -1, 4, 0, 2}, []int{3, 2, 1, 4, 4, 3, 0, 4}},
		{[]int{1}, 4, []int{1, -1, -1, -1, 0, -1, -1, -1}, []int{-1, -1, -1, -1, 0, -1, -1, -1}},
		{[]int{4}, 7, []int{1, 2, 3, 4, -1, 3, 4, 0}, []int{4, 3, 2, 1, 5, 4, 2, 0}},
		{[]int{4}, 0, []int{0, 1, 2, 3, -1, 2, 3, 4}, []int{0, -1, -1, -1, 1, -1, -1, 1}},
	} {
		from, e := From(l, c.mask, c.node)
		if e != api.OK || !slices.Equal(from, c.from) {
			t.Errorf("From(%v, %d): %v, %d, not %v", c.mask, c.node, from, e, c.from)
		}
		to, e := To(l, c.mask, c.node)
		if e != api.OK || !slices.Equal(to, c.to) {
			t.Errorf("To(%v, %d): %v, %d, not %v", c.mask, c.node, to, e, c.to)
		}
	}
	hold(t, l, nil)
	holdCut(t, l, nil)
}

func TestP7_1_NodesBetweenAreTracks(t *testing.T) {
	for _, c := range []struct {
		between string
		from    []int
		to      []int
	}{
		{"t", []int{0, 1, 2}, []int{2, 1, 0}},
		{"s", []int{0, 1, -1}, []int{-1, 1, 0}},
		{"p", []int{0, 1, -1}, []int{-1, 1, 0}},
		{"g", []int{0, 1, -1}, []int{-1, 1, 0}},
	} {
		l := build(t, "t"+c.between+"t", [2]int{0, 1}, [2]int{1, 2})
		if from, _ := From(l, nil, 0); !slices.Equal(from, c.from) {
			t.Errorf("From through %s: %v", c.between, from)
		}
		if to, _ := To(l, nil, 2); !slices.Equal(to, c.to) {
			t.Errorf("To through %s: %v", c.between, to)
		}
		cut, e := Cut(l, nil, 0, 2)
		if want := c.from[2] == 2; e != api.OK || slices.Equal(cut, []int{1, 2}) != want || len(cut) == 0 == want {
			t.Errorf("Cut through %s: %v, %d", c.between, cut, e)
		}
		// The short way through it is none, the long one over tracks is one.
		l = build(t, "t"+c.between+"ttt", [2]int{0, 1}, [2]int{1, 2}, [2]int{0, 3}, [2]int{3, 4}, [2]int{4, 2})
		long := 3
		if c.between == "t" {
			long = 2
		}
		if from, _ := From(l, nil, 0); from[2] != long {
			t.Errorf("From past %s: %v", c.between, from)
		}
		if to, _ := To(l, nil, 2); to[0] != long {
			t.Errorf("To past %s: %v", c.between, to)
		}
	}
}

func TestP7_1_EndsMayBeOfAnyKind(t *testing.T) {
	for _, a := range "tspg" {
		for _, b := range "tspg" {
			l := build(t, string(a)+"t"+string(b), [2]int{0, 1}, [2]int{1, 2})
			from, e := From(l, nil, 0)
			to, f := To(l, nil, 2)
			if e != api.OK || f != api.OK || !slices.Equal(from, []int{0, 1, 2}) || !slices.Equal(to, []int{2, 1, 0}) {
				t.Errorf("%c to %c: %v, %v", a, b, from, to)
			}
			if cut, e := Cut(l, nil, 0, 2); e != api.OK || !slices.Equal(cut, []int{1, 2}) {
				t.Errorf("Cut %c to %c: %v", a, b, cut)
			}
		}
	}
}

func TestP7_1_EdgesGoOneWay(t *testing.T) {
	l := build(t, "tt", [2]int{1, 0})
	for _, c := range []struct {
		node     int
		from, to []int
	}{
		{0, []int{0, -1}, []int{0, 1}},
		{1, []int{1, 0}, []int{-1, 0}},
	} {
		from, _ := From(l, nil, c.node)
		to, _ := To(l, nil, c.node)
		if !slices.Equal(from, c.from) || !slices.Equal(to, c.to) {
			t.Errorf("%d: %v, %v", c.node, from, to)
		}
	}
}

func TestP7_1_SlotBesideATrack(t *testing.T) {
	// The slot 2 is right beside the track 1, the slot 3 beside the track 0; both by edges there and back.
	l := build(t, "ttss", [2]int{0, 1}, [2]int{1, 2}, [2]int{2, 1}, [2]int{0, 3}, [2]int{3, 0})
	for _, c := range []struct {
		node     int
		from, to []int
	}{
		{0, []int{0, 1, 2, 1}, []int{0, -1, -1, 1}},
		{1, []int{-1, 0, 1, -1}, []int{1, 0, 1, 2}},
		{2, []int{-1, 1, 0, -1}, []int{2, 1, 0, 3}},
		{3, []int{1, 2, 3, 0}, []int{1, -1, -1, 0}},
	} {
		from, _ := From(l, nil, c.node)
		to, _ := To(l, nil, c.node)
		if !slices.Equal(from, c.from) || !slices.Equal(to, c.to) {
			t.Errorf("%d: %v, %v", c.node, from, to)
		}
	}
}

func TestP7_1_OneNodeAlone(t *testing.T) {
	for _, kind := range []string{"t", "s", "p", "g"} {
		l := build(t, kind)
		for _, mask := range [][]int{nil, {}, {0}, {1}, {-1}} {
			from, e := From(l, mask, 0)
			to, f := To(l, mask, 0)
			if e != api.OK || f != api.OK || !slices.Equal(from, []int{0}) || !slices.Equal(to, []int{0}) {
				t.Errorf("%s: %v, %d; %v, %d", kind, from, e, to, f)
			}
			if cut, e := Cut(l, mask, 0, 0); e != api.OK || len(cut) != 0 {
				t.Errorf("%s: %v, %d", kind, cut, e)
			}
			if !Whole(l, mask) {
				t.Errorf("%s: not whole", kind)
			}
		}
	}
}

func TestP7_1_LongestLine(t *testing.T) {
	kinds := ""
	var edges [][2]int
	for i := range api.MaxNode {
		kinds += "t"
		if i > 0 {
			edges = append(edges, [2]int{i - 1, i})
		}
	}
	l := build(t, kinds, edges...)
	from, _ := From(l, nil, 0)
	to, _ := To(l, nil, api.MaxNode-1)
	for i := range api.MaxNode {
		if from[i] != i || to[i] != api.MaxNode-1-i {
			t.Fatalf("%v, %v", from, to)
		}
	}
	cut, _ := Cut(l, nil, 0, api.MaxNode-1)
	for i := range api.MaxNode - 1 {
		if cut[i] != i+1 {
			t.Fatalf("%v", cut)
		}
	}
	hold(t, l, nil)
	hold(t, l, []int{20})
	holdCut(t, l, nil)
	holdCut(t, l, []int{39})
}

// full is a layout of 40 nodes and 120 edges.
func full(t testing.TB, kindAt func(i int) byte) api.Layout {
	kinds := ""
	for i := range api.MaxNode {
		kinds += string(kindAt(i))
	}
	var edges [][2]int
	for _, step := range []int{1, 39, 6} {
		for i := range api.MaxNode {
			edges = append(edges, [2]int{i, (i + step) % api.MaxNode})
		}
	}
	l := build(t, kinds, edges...)
	if len(l.Nodes) != 40 || len(l.Edges) != 120 {
		t.Fatal("not so many nodes and edges")
	}
	return l
}

func TestP7_1_MostNodesAndEdges(t *testing.T) {
	tracks := full(t, func(int) byte { return 't' })
	mixed := full(t, func(i int) byte {
		if i%4 == 1 { // of steps of 1, 39 and 6 none goes from one of these to another
			return "spg"[i/4%3]
		}
		return 't'
	})
	var all []int
	for device := range api.MaxEdge {
		all = append(all, device+1)
	}
	for _, l := range []api.Layout{tracks, mixed} {
		for _, mask := range [][]int{nil, all[:40], all[40:], all[10:90], all[:119], all} {
			hold(t, l, mask)
		}
		holdCut(t, l, all[40:])
		holdCut(t, l, append(slices.Clone(all[5:40]), all[47:]...))
	}
	holdCut(t, mixed, nil)
	from, _ := From(tracks, all, 7)
	for i, far := range from {
		if (i == 7) != (far == 0) || (i != 7) != (far == -1) {
			t.Errorf("with all devices out of order: %v", from)
		}
	}
}

func TestP7_1_Masks(t *testing.T) {
	l := store(t)
	plain, one := lengthsByWords(l, nil), lengthsByWords(l, []int{2, 6})
	none := lengthsByWords(l, []int{1, 2, 3, 4, 5, 6, 7, 8, 9, 10, 11})
	for _, c := range []struct {
		mask []int
		want [][]int
	}{
		{nil, plain},
		{[]int{}, plain},
		{[]int{0}, plain},
		{[]int{-1}, plain},
		{[]int{12}, plain},
		{[]int{0, -1, 12, 13, math.MaxInt, math.MinInt, 200, -2}, plain},
		{[]int{2, 6}, one},
		{[]int{6, 2}, one},
		{[]int{2, 2, 6}, one},
		{[]int{6, 2, 6, 2, 6}, one},
		{[]int{12, 6, 0, 2, -1}, one},
		{[]int{1, 2, 3, 4, 5, 6, 7, 8, 9, 10, 11}, none},
		{[]int{11, 10, 9, 8, 7, 6, 5, 4, 3, 2, 1}, none},
		{[]int{3, 12, 1, 2, 5, 4, 4, 0, 7, 6, 11, 9, 10, 8, -1, 1}, none},
	} {
		for node := range l.Nodes {
			if from, e := From(l, c.mask, node); e != api.OK || !slices.Equal(from, c.want[node]) {
				t.Errorf("From(%v, %d): %v, %d", c.mask, node, from, e)
			}
		}
		hold(t, l, c.mask)
		holdCut(t, l, c.mask)
	}
}

func TestP7_1_LongMask(t *testing.T) {
	l := store(t)
	mask := make([]int, 100000)
	mask[99999] = 2
	if from, e := From(l, mask, 1); e != api.OK || from[2] != -1 {
		t.Errorf("%v, %d", from, e)
	}
}

func TestP7_1_EachDeviceIsItsEdges(t *testing.T) {
	l := store(t)
	for device := 1; device <= len(l.Edges); device++ {
		e := l.Edges[device-1]
		with, _ := From(l, nil, e[0])
		without, _ := From(l, []int{device}, e[0])
		if with[e[1]] != 1 || without[e[1]] == 1 {
			t.Errorf("device %d: %v, %v", device, with, without)
		}
	}
}

func TestP7_1_Cut(t *testing.T) {
	two := build(t, "tttt", [2]int{0, 1}, [2]int{1, 3}, [2]int{0, 2}, [2]int{2, 3})
	tail := build(t, "tttttp", [2]int{4, 5}, [2]int{3, 4}, [2]int{2, 3}, [2]int{1, 3}, [2]int{0, 1}, [2]int{0, 2})
	direct := build(t, "ttt", [2]int{0, 1}, [2]int{1, 2}, [2]int{0, 2})
	for _, c := range []struct {
		l    api.Layout
		mask []int
		a, b int
		want []int
	}{
		{two, nil, 0, 3, nil},
		{two, []int{1}, 0, 3, []int{3, 4}},
		{two, []int{4}, 0, 3, []int{1, 2}},
		{two, []int{1, 4}, 0, 3, nil},
		{two, nil, 0, 1, []int{1}},
		{two, nil, 3, 0, nil},
		{two, nil, 1, 2, nil},
		{two, nil, 0, 0, nil},
		{two, nil, 3, 3, nil},
		{tail, nil, 0, 5, []int{1, 2}},
		{tail, []int{5}, 0, 5, []int{1, 2, 3, 6}},
		{tail, []int{6}, 0, 5, []int{1, 2, 4, 5}},
		{tail, []int{5, 6}, 0, 5, nil},
		{tail, []int{1}, 0, 5, nil},
		{tail, []int{6, 6, 0, 7}, 0, 5, []int{1, 2, 4, 5}},
		{tail, nil, 5, 0, nil},
		{tail, nil, 5, 5, nil},
		{direct, nil, 0, 2, nil},
		{direct, []int{2}, 0, 2, []int{3}},
		{direct, []int{3}, 0, 2, []int{1, 2}},
		{store(t), nil, 4, 7, []int{1, 2, 3, 5, 10}},
		{store(t), nil, 6, 7, []int{9, 10}},
		{store(t), nil, 5, 5, nil},
		{store(t), nil, 7, 0, []int{11}},
		{store(t), []int{11}, 7, 0, nil},
	} {
		got, e := Cut(c.l, c.mask, c.a, c.b)
		if e != api.OK || !slices.Equal(got, c.want) {
			t.Errorf("Cut(%v, %d, %d): %v, %d, not %v", c.mask, c.a, c.b, got, e, c.want)
		}
	}
}

func TestP7_1_NoPlace(t *testing.T) {
	for _, l := range []api.Layout{build(t, "t"), ring(t, 3), store(t), full(t, func(int) byte { return 't' })} {
		n := len(l.Nodes)
		for _, wrong := range []int{-1, n, n + 1, -2, math.MaxInt, math.MinInt, 1 << 32, -n} {
			for _, mask := range [][]int{nil, {1}} {
				if far, e := From(l, mask, wrong); e != api.ErrRange || len(far) != 0 {
					t.Errorf("From(%d) of %d nodes: %v, %d", wrong, n, far, e)
				}
				if far, e := To(l, mask, wrong); e != api.ErrRange || len(far) != 0 {
					t.Errorf("To(%d) of %d nodes: %v, %d", wrong, n, far, e)
				}
				for _, ends := range [][2]int{{wrong, 0}, {0, wrong}, {n - 1, wrong}, {wrong, wrong}, {wrong, -1}, {n, wrong}} {
					if cut, e := Cut(l, mask, ends[0], ends[1]); e != api.ErrRange || len(cut) != 0 {
						t.Errorf("Cut(%v) of %d nodes: %v, %d", ends, n, cut, e)
					}
				}
			}
		}
		for _, right := range []int{0, n - 1} {
			if far, e := From(l, nil, right); e != api.OK || len(far) != n || far[right] != 0 {
				t.Errorf("From(%d) of %d nodes: %v, %d", right, n, far, e)
			}
			if far, e := To(l, nil, right); e != api.OK || len(far) != n || far[right] != 0 {
				t.Errorf("To(%d) of %d nodes: %v, %d", right, n, far, e)
			}
		}
	}
}

func TestP7_1_Whole(t *testing.T) {
	for _, c := range []struct {
		what string
		l    api.Layout
		mask []int
		want bool
	}{
		{"store", store(t), nil, true},
		{"what leads to the station is out of order", store(t), []int{10}, false},
		{"what leads from the gate", store(t), []int{5}, false},
		{"what leads to a slot", store(t), []int{6}, false},
		{"what leads to the other slot", store(t), []int{8}, false},
		{"what leads from a slot", store(t), []int{7}, false},
		{"what leads from the station", store(t), []int{11}, true},
		{"what leads back to the beginning of the ring", store(t), []int{4}, true},
		{"all but what is needed", store(t), []int{4, 11}, true},
		{"all", store(t), []int{1, 2, 3, 4, 5, 6, 7, 8, 9, 10, 11}, false},
		{"no gate, slot or station", ring(t, 3), nil, true},
		{"no gate, slot or station, all out of order", ring(t, 3), []int{1, 2, 3}, true},
		{"tracks apart", build(t, "ttt"), nil, true},
		{"a gate alone", build(t, "tg"), nil, true},
		{"a slot alone", build(t, "ts"), nil, true},
		{"a station alone", build(t, "tp"), nil, true},
		{"two stations apart", build(t, "tpp"), nil, true},
		{"two slots apart", build(t, "tss"), nil, true},
		{"two gates apart", build(t, "tgg"), nil, true},
		{"gate and slot apart", build(t, "tgs"), nil, false},
		{"slot and gate apart", build(t, "tsg"), nil, false},
		{"gate and station apart", build(t, "tgp"), nil, false},
		{"slot and station apart", build(t, "tsp"), nil, false},
		{"station and slot apart", build(t, "tps"), nil, false},
		{"gate to slot", build(t, "tgs", [2]int{1, 0}, [2]int{0, 2}), nil, true},
		{"slot to gate alone", build(t, "tgs", [2]int{2, 0}, [2]int{0, 1}), nil, false},
		{"gate to station", build(t, "tgp", [2]int{1, 0}, [2]int{0, 2}), nil, true},
		{"station to gate alone", build(t, "tgp", [2]int{2, 0}, [2]int{0, 1}), nil, false},
		{"slot to station", build(t, "tsp", [2]int{1, 0}, [2]int{0, 2}), nil, true},
		{"station to slot alone", build(t, "tsp", [2]int{2, 0}, [2]int{0, 1}), nil, false},
		{"one station of two isn't reached", build(t, "tspp", [2]int{1, 0}, [2]int{0, 2}), nil, false},
		{"one slot of two doesn't reach", build(t, "tssp", [2]int{1, 0}, [2]int{0, 3}), nil, false},
		{"one gate of two doesn't reach", build(t, "tggp", [2]int{2, 0}, [2]int{0, 3}), nil, false},
		{"one slot of two isn't reached", build(t, "tgss", [2]int{1, 0}, [2]int{0, 2}), nil, false},
		{"a gate reaches through a slot alone", build(t, "ttgsp",
			[2]int{2, 0}, [2]int{0, 3}, [2]int{3, 1}, [2]int{1, 4}), nil, false},
	} {
		if got := Whole(c.l, c.mask); got != c.want {
			t.Errorf("%s: %v", c.what, got)
		}
		if wholeByWords(c.l, c.mask) != c.want {
			t.Errorf("%s: the test is wrong", c.what)
		}
	}
}

func TestP7_1_AllSmallLayouts(t *testing.T) {
	pairs := [][2]int{{2, 1}, {0, 1}, {1, 2}, {2, 0}, {1, 0}, {0, 2}}
	for _, a := range "tspg" {
		for _, b := range "tspg" {
			for _, c := range "tspg" {
				kinds := string(a) + string(b) + string(c)
				for set := range 1 << len(pairs) {
					var edges [][2]int
					for i, e := range pairs {
						if set>>i&1 == 1 && (kinds[e[0]] == 't' || kinds[e[1]] == 't') {
							edges = append(edges, e)
						}
					}
					l := build(t, kinds, edges...)
					for device := range len(edges) + 1 {
						hold(t, l, []int{device})
						holdCut(t, l, []int{device})
					}
				}
			}
		}
	}
}

func TestP7_1_ManyLayouts(t *testing.T) {
	rnd := rand.New(rand.NewSource(71))
	for i := range 400 {
		n := 1 + rnd.Intn(14)
		if i%20 == 0 {
			n = api.MaxNode
		}
		l := chance(t, rnd, n, rnd.Intn(3*n+1))
		mask := chanceMask(rnd, l)
		hold(t, l, mask)
		hold(t, l, nil)
		if i%4 == 0 {
			holdCut(t, l, mask)
		}
	}
}

// tree is a tree of tracks, both ways, with leaves of other kinds.
func tree(t testing.TB, rnd *rand.Rand) api.Layout {
	kinds := "t"
	var edges [][2]int
	for i := 1; i < 24; i++ {
		k := "t"
		if i > 9 {
			k = string("spg"[rnd.Intn(3)])
		}
		up := rnd.Intn(min(i, 10))
		kinds += k
		edges = append(edges, [2]int{up, i}, [2]int{i, up})
	}
	return build(t, kinds, edges...)
}

func TestP7_1_RingsLinesAndTrees(t *testing.T) {
	rnd := rand.New(rand.NewSource(72))
	for n := 2; n <= 12; n++ {
		l := ring(t, n)
		for device := range n + 2 {
			hold(t, l, []int{device})
			holdCut(t, l, []int{device})
		}
	}
	for range 20 {
		l := tree(t, rnd)
		if !Whole(l, nil) {
			t.Fatalf("in a tree %v all is reached", l)
		}
		hold(t, l, nil)
		holdCut(t, l, nil)
		mask := chanceMask(rnd, l)
		hold(t, l, mask)
		holdCut(t, l, mask)
	}
}

func TestP7_2_NoWayGetsShorter(t *testing.T) {
	rnd := rand.New(rand.NewSource(73))
	for range 300 {
		n := 1 + rnd.Intn(api.MaxNode)
		l := chance(t, rnd, n, rnd.Intn(api.MaxEdge+1))
		mask := chanceMask(rnd, l)
		more := append(slices.Clone(mask), 1+rnd.Intn(len(l.Edges)+1))
		for node := range n {
			from, _ := From(l, mask, node)
			less, _ := From(l, more, node)
			for i := range from {
				if less[i] >= 0 && (from[i] < 0 || from[i] > less[i]) {
					t.Fatalf("From(%v, %v, %d): %v, with %v: %v", l, mask, node, from, more, less)
				}
			}
			to, _ := To(l, mask, node)
			less, _ = To(l, more, node)
			for i := range to {
				if less[i] >= 0 && (to[i] < 0 || to[i] > less[i]) {
					t.Fatalf("To(%v, %v, %d): %v, with %v: %v", l, mask, node, to, more, less)
				}
			}
		}
		if Whole(l, more) && !Whole(l, mask) {
			t.Fatalf("Whole(%v, %v), but not with %v", l, more, mask)
		}
	}
}

func TestP7_2_FromAndToTellTheSame(t *testing.T) {
	rnd := rand.New(rand.NewSource(74))
	for range 300 {
		n := 1 + rnd.Intn(api.MaxNode)
		l := chance(t, rnd, n, rnd.Intn(api.MaxEdge+1))
		mask := chanceMask(rnd, l)
		to := make([][]int, n)
		for b := range n {
			to[b], _ = To(l, mask, b)
		}
		for a := range n {
			from, _ := From(l, mask, a)
			for b := range n {
				if from[b] != to[b][a] {
					t.Fatalf("%v, %v: from %d to %d %d, but to it %d", l, mask, a, b, from[b], to[b][a])
				}
			}
		}
	}
}

// roomy hands out l and mask with spare room, and a function that tells whether all is as it was.
func roomy(l api.Layout, mask []int) (api.Layout, []int, func() bool) {
	nodes := append(slices.Clone(l.Nodes), api.Node{Name: "spare", Kind: 77})
	edges := append(slices.Clone(l.Edges), [2]int{77, 77})
	masked := append(slices.Clone(mask), 77, 77)
	stays := func() bool {
		return slices.Equal(nodes, append(slices.Clone(l.Nodes), api.Node{Name: "spare", Kind: 77})) &&
			slices.Equal(edges, append(slices.Clone(l.Edges), [2]int{77, 77})) &&
			slices.Equal(masked, append(slices.Clone(mask), 77, 77))
	}
	handed := api.Layout{Nodes: nodes[:len(l.Nodes)], Edges: edges[:len(l.Edges)]}
	return handed, masked[:len(mask)], stays
}

func TestP7_3_WhatIsHandedInStays(t *testing.T) {
	rnd := rand.New(rand.NewSource(75))
	for i := range 100 {
		l := store(t)
		if i > 0 {
			l = chance(t, rnd, 1+rnd.Intn(12), rnd.Intn(30))
		}
		handed, mask, stays := roomy(l, chanceMask(rnd, l))
		for a := -1; a <= len(l.Nodes); a++ {
			From(handed, mask, a)
			To(handed, mask, a)
			for b := -1; b <= len(l.Nodes); b++ {
				Cut(handed, mask, a, b)
			}
		}
		Whole(handed, mask)
		if !stays() {
			t.Fatalf("%v, %v: what is handed in is changed", l, mask)
		}
	}
}

// overlap tells whether two lists share memory, spare room too.
func overlap(a, b []int) bool {
	if cap(a) == 0 || cap(b) == 0 {
		return false
	}
	x, y := uintptr(unsafe.Pointer(unsafe.SliceData(a))), uintptr(unsafe.Pointer(unsafe.SliceData(b)))
	return x < y+uintptr(cap(b))*8 && y < x+uintptr(cap(a))*8
}

func TestP7_3_AnswersAreNewMemory(t *testing.T) {
	l := store(t)
	mask := []int{4, 11, 4}
	call := func() [][]int {
		var lists [][]int
		for node := range l.Nodes {
			from, _ := From(l, mask, node)
			to, _ := To(l, mask, node)
			cut, _ := Cut(l, mask, 4, node)
			lists = append(lists, from, to, cut)
		}
		return lists
	}
	first := call()
	want := make([][]int, len(first))
	for i, list := range first {
		want[i] = slices.Clone(list)
	}
	second := call()
	all := append(slices.Clone(first), second...)
	for i, a := range all {
		if overlap(a, mask) {
			t.Errorf("answer %d shares the mask's memory", i)
		}
		for j, b := range all[:i] {
			if overlap(a, b) {
				t.Errorf("answers %d and %d share memory", j, i)
			}
		}
	}
	for _, list := range first {
		room := list[:cap(list)]
		for i := range room {
			room[i] = 99
		}
	}
	for i, list := range call() {
		if !slices.Equal(list, want[i]) || !slices.Equal(second[i], want[i]) {
			t.Errorf("answer %d hangs on an earlier one", i)
		}
	}
}

func TestP7_3_NothingIsKept(t *testing.T) {
	l, other := store(t), ring(t, 5)
	before, _ := From(l, []int{1}, 0)
	From(other, []int{2}, 3)
	To(other, nil, 1)
	Cut(l, []int{3}, 0, 7)
	Whole(other, []int{1})
	after, _ := From(l, []int{1}, 0)
	if !slices.Equal(before, after) {
		t.Errorf("%v, then %v", before, after)
	}
}

// Nothing is promised of what these answer, but that they do.
func TestP6_NoCallPanics(t *testing.T) {
	node := func(kind int) api.Node { return api.Node{Name: "a", Kind: kind} }
	for _, l := range []api.Layout{
		{},
		{Edges: [][2]int{{0, 1}}},
		{Nodes: []api.Node{node(1), node(1)}, Edges: [][2]int{{0, 2}, {2, 1}, {-1, 0}, {0, -1}, {math.MaxInt, 0}, {0, math.MinInt}}},
		{Nodes: []api.Node{node(1), node(4), node(2)}, Edges: [][2]int{{0, 0}, {0, 1}, {0, 1}, {1, 1}, {1, 2}, {2, 3}}},
		{Nodes: []api.Node{node(0), node(5), node(-1), node(math.MaxInt)}, Edges: [][2]int{{0, 1}, {1, 2}, {2, 3}, {3, 0}}},
		{Nodes: make([]api.Node, 1000), Edges: make([][2]int, 1000)},
	} {
		for _, mask := range [][]int{nil, {1}, {-1, 0, 1, 2, 7, math.MaxInt, math.MinInt}} {
			for _, a := range []int{math.MinInt, -1, 0, 1, 2, math.MaxInt} {
				From(l, mask, a)
				To(l, mask, a)
				for _, b := range []int{math.MinInt, -1, 0, 1, 2, math.MaxInt} {
					Cut(l, mask, a, b)
				}
			}
			Whole(l, mask)
		}
	}
}
