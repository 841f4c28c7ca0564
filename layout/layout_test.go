package layout

import (
	"fmt"
	"math"
	"math/rand"
	"regexp"
	"slices"
	"strings"
	"testing"
	"unsafe"

	"stillage/api"
)

// What a layout, a line and a text are, written by the chapter's words, slow and plain, and apart from the program.
var (
	nameForm = regexp.MustCompile(`\A[a-z][a-z0-9]{0,7}\z`)
	nodeForm = regexp.MustCompile(`\Anode ([a-z][a-z0-9]{0,7}) (track|slot|station|gate) ([0-7])\z`)
	edgeForm = regexp.MustCompile(`\Aedge ([^ ]+) ([^ ]+)\z`)
)

func kindNumber(word string) int {
	switch word {
	case "track":
		return 1
	case "slot":
		return 2
	case "station":
		return 3
	case "gate":
		return 4
	}
	return 0
}

func isLayoutByWords(l api.Layout) bool {
	if len(l.Nodes) == 0 || len(l.Nodes) > 40 || len(l.Edges) > 120 {
		return false
	}
	for i, n := range l.Nodes {
		if !nameForm.MatchString(n.Name) || n.Kind < 1 || n.Kind > 4 || n.Zone < 0 || n.Zone > 7 {
			return false
		}
		for _, m := range l.Nodes[i+1:] {
			if m.Name == n.Name {
				return false
			}
		}
	}
	for i, e := range l.Edges {
		for _, end := range e {
			if end < 0 || end >= len(l.Nodes) {
				return false
			}
		}
		if e[0] == e[1] || l.Nodes[e[0]].Kind != 1 && l.Nodes[e[1]].Kind != 1 {
			return false
		}
		for _, f := range l.Edges[i+1:] {
			if e == f {
				return false
			}
		}
	}
	return true
}

// linesByWords cuts byte by byte: a line ends with a byte 10, the last one perhaps with the text.
func linesByWords(text string) []string {
	var lines []string
	line := ""
	for i := 0; i < len(text); i++ {
		if text[i] == 10 {
			lines = append(lines, line)
			line = ""
			continue
		}
		line += text[i : i+1]
	}
	if line != "" {
		lines = append(lines, line)
	}
	return lines
}

func parseByWords(text string) (api.Layout, int, api.Errno) {
	if len(text) > 4096 {
		return api.Layout{}, 0, api.ErrLong
	}
	var l api.Layout
	place := func(name string) int {
		for i, n := range l.Nodes {
			if n.Name == name {
				return i
			}
		}
		return -1
	}
	for i, line := range linesByWords(text) {
		if line == "" || line[0] == '#' {
			continue
		}
		if m := nodeForm.FindStringSubmatch(line); m != nil {
			l.Nodes = append(l.Nodes, api.Node{Name: m[1], Kind: kindNumber(m[2]), Zone: int(m[3][0] - '0')})
			continue
		}
		if m := edgeForm.FindStringSubmatch(line); m != nil && place(m[1]) >= 0 && place(m[2]) >= 0 {
			l.Edges = append(l.Edges, [2]int{place(m[1]), place(m[2])})
			continue
		}
		return api.Layout{}, i + 1, api.ErrLayout
	}
	if !isLayoutByWords(l) {
		return api.Layout{}, 0, api.ErrPart
	}
	return l, 0, api.OK
}

func textByWords(l api.Layout) string {
	s := ""
	for _, n := range l.Nodes {
		s += fmt.Sprintf("node %s %s %d\n", n.Name, [...]string{1: "track", 2: "slot", 3: "station", 4: "gate"}[n.Kind], n.Zone)
	}
	for _, e := range l.Edges {
		s += fmt.Sprintf("edge %s %s\n", l.Nodes[e[0]].Name, l.Nodes[e[1]].Name)
	}
	return s
}

func same(a, b api.Layout) bool {
	return slices.Equal(a.Nodes, b.Nodes) && slices.Equal(a.Edges, b.Edges)
}

func clone(l api.Layout) api.Layout {
	return api.Layout{Nodes: slices.Clone(l.Nodes), Edges: slices.Clone(l.Edges)}
}

// store is a layout with several nodes of each kind.
func store() api.Layout {
	return api.Layout{
		Nodes: []api.Node{
			{Name: "a", Kind: api.NTrack}, {Name: "s1", Kind: api.NSlot, Zone: 1}, {Name: "b", Kind: api.NTrack, Zone: 7},
			{Name: "p", Kind: api.NStation, Zone: 7}, {Name: "gate", Kind: api.NGate, Zone: 2}, {Name: "s2", Kind: api.NSlot},
			{Name: "station9", Kind: api.NStation, Zone: 3}, {Name: "g0", Kind: api.NGate, Zone: 4}, {Name: "node", Kind: api.NTrack, Zone: 5},
		},
		Edges: [][2]int{{0, 2}, {2, 0}, {0, 1}, {1, 0}, {4, 0}, {2, 3}, {3, 2}, {5, 2}, {2, 5}, {8, 6}, {7, 8}, {0, 8}},
	}
}

const storeText = "node a track 0\nnode s1 slot 1\nnode b track 7\nnode p station 7\nnode gate gate 2\nnode s2 slot 0\nnode station9 station 3\nnode g0 gate 4\nnode node track 5\n" +
	"edge a b\nedge b a\nedge a s1\nedge s1 a\nedge gate a\nedge b p\nedge p b\nedge s2 b\nedge b s2\nedge node station9\nedge g0 node\nedge a node\n"

// tracks is a layout of as many tracks and edges as said, with Names of 8 bytes.
func tracks(nodes, edges int) api.Layout {
	var l api.Layout
	for i := range nodes {
		l.Nodes = append(l.Nodes, api.Node{Name: fmt.Sprintf("track%03d", i), Kind: api.NTrack, Zone: i % 8})
	}
	for from := 0; len(l.Edges) < edges; from++ {
		for to := 0; to < nodes && len(l.Edges) < edges; to++ {
			if from != to {
				l.Edges = append(l.Edges, [2]int{from, to})
			}
		}
	}
	return l
}

// holdLayout holds Check and Show against the words, for one layout; a layout's text must be parsed to it.
func holdLayout(t *testing.T, l api.Layout) {
	t.Helper()
	wantText, wantE := "", api.ErrPart
	if isLayoutByWords(l) {
		wantText, wantE = textByWords(l), api.OK
	}
	if e := Check(l); e != wantE {
		t.Fatalf("P6.1: Check(%v) = %d, want %d", l, e, wantE)
	}
	if text, e := Show(l); text != wantText || e != wantE {
		t.Fatalf("P6.1: Show(%v) = %q, %d, want %q, %d", l, text, e, wantText, wantE)
	}
	if wantE != api.OK {
		return
	}
	if got, line, e := Parse(wantText); !same(got, l) || line != 0 || e != api.OK {
		t.Fatalf("P6.2: Parse of the text of %v = %v, %d, %d", l, got, line, e)
	}
}

// holdText holds Parse against the words, for one text; what is parsed must be shown, and that parsed to the same.
func holdText(t *testing.T, text string) {
	t.Helper()
	want, wantLine, wantE := parseByWords(text)
	l, line, e := Parse(text)
	if !same(l, want) || line != wantLine || e != wantE {
		t.Fatalf("P6.1: Parse(%q) = %v, %d, %d, want %v, %d, %d", text, l, line, e, want, wantLine, wantE)
	}
	if e != api.OK {
		return
	}
	shown, e := Show(l)
	if shown != textByWords(want) || e != api.OK {
		t.Fatalf("P6.2: Show of what %q is parsed to = %q, %d", text, shown, e)
	}
	if again, line, e := Parse(shown); !same(again, want) || line != 0 || e != api.OK {
		t.Fatalf("P6.2: Parse of what is shown of %q = %v, %d, %d", text, again, line, e)
	}
}

func TestP6_1_ExamplesOfTheChapter(t *testing.T) {
	l, line, e := Parse("node a track 0\nnode s slot 0\nedge a s\n")
	want := api.Layout{Nodes: []api.Node{{Name: "a", Kind: api.NTrack}, {Name: "s", Kind: api.NSlot}}, Edges: [][2]int{{0, 1}}}
	if !same(l, want) || line != 0 || e != api.OK {
		t.Errorf("two nodes, one edge: %v, %d, %d", l, line, e)
	}
	if d := Out(l, 0); !slices.Equal(d, []int{1}) {
		t.Errorf("the device of the edge: %v", d)
	}
	if _, line, e := Parse("node a track 0\nedge a b\nnode b track 0\n"); line != 2 || e != api.ErrLayout {
		t.Errorf("an edge ahead of its node: %d, %d", line, e)
	}
	if _, line, e := Parse("node a slot 0\nnode b slot 0\nedge a b\n"); line != 0 || e != api.ErrPart {
		t.Errorf("an edge from a slot to a slot: %d, %d", line, e)
	}
}

func TestP6_1_CheckOfOrdinaryLayouts(t *testing.T) {
	for _, l := range []api.Layout{
		store(),
		{Nodes: store().Nodes},
		{Nodes: store().Nodes, Edges: [][2]int{}},
		tracks(1, 0), tracks(40, 120), tracks(40, 0), tracks(12, 120),
	} {
		if e := Check(l); e != api.OK {
			t.Errorf("Check(%v) = %d", l, e)
		}
		holdLayout(t, l)
	}
}

func TestP6_1_CheckOfTooManyOrTooFew(t *testing.T) {
	for _, l := range []api.Layout{{}, {Nodes: []api.Node{}}, {Edges: [][2]int{{0, 1}}}, tracks(41, 0), tracks(41, 120), tracks(40, 121), tracks(41, 121), tracks(500, 5000)} {
		if e := Check(l); e != api.ErrPart {
			t.Errorf("%d nodes, %d edges: %d", len(l.Nodes), len(l.Edges), e)
		}
		holdLayout(t, l)
	}
}

// Each single byte, each pair of bytes, and names about the greatest length.
func TestP6_1_Names(t *testing.T) {
	hold := func(name string) {
		t.Helper()
		holdLayout(t, api.Layout{Nodes: []api.Node{{Name: name, Kind: api.NTrack}}})
		if !strings.ContainsAny(name, "\n") {
			holdText(t, "node "+name+" track 0")
		}
	}
	for a := range 256 {
		hold(string([]byte{byte(a)}))
		hold("abcdefg" + string([]byte{byte(a)}))
		for b := range 256 {
			hold(string([]byte{byte(a), byte(b)}))
		}
	}
	for n := range 20 {
		hold(strings.Repeat("z", n))
		hold("a" + strings.Repeat("9", n))
	}
	for _, name := range []string{"é", "aé", "٣", "a٣", "ａ", "a\x00", "abcdefgé", "\xff\xfe", strings.Repeat("a", 5000), "Abc", "aBc", "a_b", "a-b", "a.b", "a{", "a`", "a/", "a:", "9a"} {
		hold(name)
		if e := Check(api.Layout{Nodes: []api.Node{{Name: name, Kind: api.NTrack}}}); e != api.ErrPart {
			t.Errorf("the Name %q: %d", name, e)
		}
	}
	for _, name := range []string{"a", "z", "a0", "z9", "abcdefgh", "a1234567", "edge", "node", "track"} {
		if e := Check(api.Layout{Nodes: []api.Node{{Name: name, Kind: api.NTrack}}}); e != api.OK {
			t.Errorf("the Name %q: %d", name, e)
		}
	}
}

func TestP6_1_OneNameTwice(t *testing.T) {
	for i := range 40 {
		for j := range i {
			l := tracks(40, 0)
			l.Nodes[i].Name = l.Nodes[j].Name
			l.Nodes[i].Kind = api.NGate
			if e := Check(l); e != api.ErrPart {
				t.Fatalf("the nodes %d and %d have one Name: %d", j, i, e)
			}
		}
	}
}

func TestP6_1_KindsAndZones(t *testing.T) {
	far := []int{math.MinInt, math.MinInt32, -256, -9, -1, 0, 1, 2, 3, 4, 5, 6, 7, 8, 9, 256, 257, 1 << 32, 1<<32 + 1, math.MaxInt}
	for _, kind := range far {
		for _, zone := range far {
			l := api.Layout{Nodes: []api.Node{{Name: "a", Kind: 1}, {Name: "b", Kind: kind, Zone: zone}}}
			want := api.ErrPart
			if kind >= 1 && kind <= 4 && zone >= 0 && zone <= 7 {
				want = api.OK
			}
			if e := Check(l); e != want {
				t.Errorf("kind %d, Zone %d: %d, want %d", kind, zone, e, want)
			}
			holdLayout(t, l)
		}
	}
}

// All lists of up to two edges with ends from -1 to 3, among three nodes of all kinds.
func TestP6_1_AllShortListsOfEdges(t *testing.T) {
	var pairs [][2]int
	for from := -1; from <= 3; from++ {
		for to := -1; to <= 3; to++ {
			pairs = append(pairs, [2]int{from, to})
		}
	}
	for kinds := range 64 {
		l := api.Layout{Nodes: []api.Node{{Name: "a", Kind: kinds%4 + 1}, {Name: "b", Kind: kinds/4%4 + 1, Zone: 1}, {Name: "c", Kind: kinds/16 + 1, Zone: 2}}}
		holdLayout(t, l)
		for _, e := range pairs {
			l.Edges = [][2]int{e}
			holdLayout(t, l)
			for _, f := range pairs {
				l.Edges = [][2]int{e, f}
				holdLayout(t, l)
			}
		}
	}
}

func TestP6_1_WrongEdges(t *testing.T) {
	for _, wrong := range [][2]int{{0, 0}, {8, 8}, {0, -1}, {-1, 0}, {0, 9}, {9, 0}, {-1, -1}, {9, 10}, {math.MinInt, 0}, {0, math.MaxInt}, {0, 2}, {0, 8}, {1, 5}, {1, 3}, {4, 7}, {3, 6}, {1, 1}} {
		for at := range len(store().Edges) + 1 {
			l := store()
			l.Edges = slices.Insert(l.Edges, at, wrong)
			if e := Check(l); e != api.ErrPart {
				t.Errorf("the edge %v at %d: %d", wrong, at, e)
			}
		}
	}
	l := tracks(40, 120)
	l.Edges[119] = l.Edges[0]
	if e := Check(l); e != api.ErrPart {
		t.Errorf("the last edge is the first one again: %d", e)
	}
}

func TestP6_1_ShowOfOrdinaryLayouts(t *testing.T) {
	if text, e := Show(store()); text != storeText || e != api.OK {
		t.Errorf("Show = %q, %d", text, e)
	}
	l := api.Layout{Nodes: []api.Node{{Name: "x", Kind: api.NGate, Zone: 7}}}
	if text, e := Show(l); text != "node x gate 7\n" || e != api.OK {
		t.Errorf("Show of one node = %q, %d", text, e)
	}
}

func TestP6_1_ParseOfOrdinaryTexts(t *testing.T) {
	lines := strings.Split(strings.TrimSuffix(storeText, "\n"), "\n")
	mixed := append([]string{lines[0], lines[2], lines[9]}, lines[1])
	for _, text := range []string{
		storeText,
		strings.TrimSuffix(storeText, "\n"),
		storeText + "\n",
		"\n\n\n" + storeText + "\n\n",
		"#\n# a remark\n\n" + strings.Join(lines, "\n\n# and one more # \xff\x00\r\n#node\n"),
		"#" + storeText[:15] + storeText,
		strings.Join(mixed, "\n"),
		strings.Join(append(mixed, "edge s1 b", "# end"), "\n"),
	} {
		if _, line, e := Parse(text); line != 0 || e != api.OK {
			t.Errorf("Parse(%q): %d, %d", text, line, e)
		}
		holdText(t, text)
	}
	if l, line, e := Parse("\n#x\n" + storeText); !same(l, store()) || line != 0 || e != api.OK {
		t.Errorf("Parse = %v, %d, %d", l, line, e)
	}
}

func TestP6_1_TextsWithoutANode(t *testing.T) {
	for _, text := range []string{"", "\n", "\n\n", "#", "#\n", "# node a track 0", strings.Repeat("\n", 4096), strings.Repeat("#", 4096)} {
		if l, line, e := Parse(text); !same(l, api.Layout{}) || line != 0 || e != api.ErrPart {
			t.Errorf("Parse(%.20q) = %v, %d, %d", text, l, line, e)
		}
		holdText(t, text)
	}
}

func TestP6_1_LengthOfATextComesFirst(t *testing.T) {
	fill := func(text string, size int) string {
		return text + "#" + strings.Repeat("x", size-len(text)-1)
	}
	if l, line, e := Parse(fill(storeText, 4096)); !same(l, store()) || line != 0 || e != api.OK {
		t.Errorf("4096 bytes: %v, %d, %d", l, line, e)
	}
	if l, line, e := Parse(fill(storeText, 4095) + "\n"); !same(l, store()) || line != 0 || e != api.OK {
		t.Errorf("4096 bytes, the last one a 10: %v, %d, %d", l, line, e)
	}
	for _, text := range []string{
		fill(storeText, 4097), fill(storeText, 4096) + "\n", fill("no line\n", 4097), fill("node a track 0\nedge a a\n", 4097),
		strings.Repeat("\n", 4097), strings.Repeat("é", 2049), strings.Repeat("x", 1<<20),
	} {
		if l, line, e := Parse(text); !same(l, api.Layout{}) || line != 0 || e != api.ErrLong {
			t.Errorf("%d bytes, %.20q: %v, %d, %d", len(text), text, l, line, e)
		}
	}
	if _, line, e := Parse(strings.Repeat("\n", 4095) + "x"); line != 4096 || e != api.ErrLayout {
		t.Errorf("4096 lines, the last one none: %d, %d", line, e)
	}
	if _, line, e := Parse(strings.Repeat("é", 2048)); line != 1 || e != api.ErrLayout {
		t.Errorf("4096 bytes of 2048 signs: %d, %d", line, e)
	}
}

var wrongLines = []string{
	"node", "node ", "node x", "node x track", "node x track ", "node x track 0 ", " node x track 0", "node  x track 0", "node x  track 0", "node x track  0",
	"node x track 0 0", "node x track 0 #", "node x track 8", "node x track 9", "node x track -1", "node x track +1", "node x track 00", "node x track 07", "node x track 10", "node x track 7a", "node x track a",
	"node x track ٣", "node x track ３", "node x track 0\r", "node x track\t0", "node\tx track 0", "node x track /", "node x track :", "node x track \x00", "node x track \xff",
	"node x road 0", "node x Track 0", "node x tracks 0", "node x trac 0", "node x 1 0", "node x  0", "node x gates 0", "node x trackslot 0", "node x NTrack 0",
	"node 1x track 0", "node X track 0", "node xX track 0", "node abcdefghi track 0", "node x# track 0", "node é track 0", "node x,y track 0", "node  track 0",
	"Node x track 0", "NODE x track 0", "nodes x track 0", "nod x track 0", "x track 0", "track x 0",
	"edge", "edge ", "edge  ", "edge a", "edge a ", "edge a b ", " edge a b", "edge  a b", "edge a  b", "edge a b a", "edge a b #", "edge a q", "edge q a", "edge q q", "edge a A", "edge a\tb", "edge a b\r", "edge b", "edges a b", "Edge a b", "edg a b", "a b", "edge a 1", "edge 0 1", "edge a,b",
	" ", "  ", "\t", "\r", "\x00", " #", "x", "no", "0", "\xff", "edge a b\x00", "edge a\x0bb", "node x track 0\x0c", "'", ";", "//", "-",
}

// Each wrong line alone, ahead of, between and behind good ones; and two of them: the first one tells.
func TestP6_1_WrongLines(t *testing.T) {
	for i, wrong := range wrongLines {
		for _, c := range []struct {
			text string
			line int
		}{
			{wrong, 1},
			{wrong + "\n", 1},
			{wrong + "\n" + storeText, 1},
			{storeText + wrong, 22},
			{storeText + wrong + "\n", 22},
			{storeText + "\n# x\n\n" + wrong + "\n" + storeText, 25},
			{"node a track 0\nnode b slot 1\n" + wrong + "\nedge a b\n", 3},
			{"#\n\nnode a track 0\nnode b slot 1\nedge a b\nedge a b\nedge a a\n" + wrong + "\n" + wrongLines[(i*7+3)%len(wrongLines)], 8},
		} {
			if l, line, e := Parse(c.text); !same(l, api.Layout{}) || line != c.line || e != api.ErrLayout {
				t.Errorf("Parse(%q) = %v, %d, %d, want line %d", c.text, l, line, e, c.line)
			}
			holdText(t, c.text)
		}
	}
}

func TestP6_1_AnEdgesNodesStandAhead(t *testing.T) {
	a, b, edge := "node a track 0\n", "node b slot 0\n", "edge a b\n"
	for _, c := range []struct {
		text string
		line int
		e    api.Errno
	}{
		{a + b + edge, 0, api.OK}, {b + a + edge, 0, api.OK}, {a + b + edge + "node c track 0\nedge c b\n", 0, api.OK},
		{a + edge + b, 2, api.ErrLayout}, {b + edge + a, 2, api.ErrLayout}, {edge + a + b, 1, api.ErrLayout}, {edge, 1, api.ErrLayout},
		{"#node a track 0\n" + b + edge, 3, api.ErrLayout}, {a + "\n" + b + "\n#\n" + edge, 0, api.OK}, {a + b + "edge b a\n" + edge, 0, api.OK},
	} {
		if _, line, e := Parse(c.text); line != c.line || e != c.e {
			t.Errorf("Parse(%q): %d, %d, want %d, %d", c.text, line, e, c.line, c.e)
		}
		holdText(t, c.text)
	}
}

// Lines that are each right, and together no layout; with a wrong line behind, it is the line that is told.
func TestP6_1_NodesAndEdgesThatAreNoLayout(t *testing.T) {
	shortNodes := func(n int) string {
		s := ""
		for i := range n {
			s += fmt.Sprintf("node a%d track 0\n", i)
		}
		return s
	}
	shortEdges := func(n int) string {
		s := ""
		for i := range n {
			s += fmt.Sprintf("edge a%d a%d\n", i/11, (i/11+1+i%11)%12)
		}
		return s
	}
	for _, c := range []struct {
		text string
		e    api.Errno
	}{
		{shortNodes(1), api.OK}, {shortNodes(40), api.OK}, {shortNodes(41), api.ErrPart}, {shortNodes(100), api.ErrPart},
		{shortNodes(12) + shortEdges(120), api.OK}, {shortNodes(12) + shortEdges(121), api.ErrPart}, {shortNodes(12) + shortEdges(132), api.ErrPart},
		{shortNodes(40) + shortEdges(120), api.OK}, {shortNodes(41) + shortEdges(120), api.ErrPart}, {shortNodes(41) + "edge a40 a0", api.ErrPart},
		{storeText + "node a track 0", api.ErrPart}, {storeText + "node a slot 7\nedge a b", api.ErrPart}, {"node a slot 0\nnode a track 0\nnode b slot 0\nedge a b", api.ErrPart},
		{storeText + "edge a b", api.ErrPart}, {storeText + "edge a a", api.ErrPart}, {storeText + "edge s1 s2", api.ErrPart}, {storeText + "edge s1 s1", api.ErrPart},
		{storeText + "edge gate p", api.ErrPart}, {storeText + "edge p station9", api.ErrPart}, {storeText + "edge a gate", api.OK}, {storeText + "edge node node", api.ErrPart},
	} {
		if _, line, e := Parse(c.text); line != 0 || e != c.e {
			t.Errorf("Parse(%q): %d, %d, want 0, %d", c.text, line, e, c.e)
		}
		holdText(t, c.text)
		behind := strings.TrimSuffix(c.text, "\n") + "\nedge a0"
		if _, line, e := Parse(behind); line != strings.Count(behind, "\n")+1 || e != api.ErrLayout {
			t.Errorf("Parse(%q): %d, %d", behind, line, e)
		}
	}
}

// Each text that is one byte away from a good one: a byte less, another one, one more.
func TestP6_1_TextsOneByteAway(t *testing.T) {
	for _, text := range []string{"node a track 0\nnode s slot 7\n\n# x\nedge a s\nedge s a\n", "node b2 gate 3\nnode a station 1\nnode t track 6\nedge b2 t"} {
		for at := range len(text) + 1 {
			for b := range 256 {
				sign := string([]byte{byte(b)})
				holdText(t, text[:at]+sign+text[at:])
				if at < len(text) {
					holdText(t, text[:at]+sign+text[at+1:])
				}
			}
			if at < len(text) {
				holdText(t, text[:at]+text[at+1:])
			}
			holdText(t, text[:at])
			holdText(t, text[at:])
		}
	}
}

// All texts of up to four lines out of some, the last one with and without a byte 10.
func TestP6_1_AllShortTexts(t *testing.T) {
	lines := []string{"", "#", "node a track 0", "node a slot 1", "node b gate 7", "node c track 8", "edge a b", "edge b a", "edge a a", "edge a c"}
	var hold func(text string, left int)
	hold = func(text string, left int) {
		holdText(t, text)
		if left == 0 {
			return
		}
		for _, line := range lines {
			holdText(t, text+line)
			hold(text+line+"\n", left-1)
		}
	}
	hold("", 4)
}

func TestP6_1_TextsByChance(t *testing.T) {
	r := rand.New(rand.NewSource(6))
	words := []string{"node", "edge", "track", "slot", "station", "gate", "a", "b", "c1", "0", "7", "8", "#", "", "abcdefghi", "q"}
	for range 30000 {
		text := ""
		for range r.Intn(12) {
			line := ""
			switch r.Intn(12) {
			case 0:
				for range r.Intn(6) {
					line += words[r.Intn(len(words))] + " "
				}
				line = strings.TrimSuffix(line, " ")
			case 1:
				line = "# " + words[r.Intn(len(words))]
			case 2, 3, 4, 5, 6:
				line = fmt.Sprintf("node n%d %s %d", r.Intn(30), words[2+r.Intn(4)], r.Intn(8))
			default:
				if m := regexp.MustCompile(`node (n\d+)`).FindAllStringSubmatch(text, -1); m != nil {
					line = "edge " + m[r.Intn(len(m))][1] + " " + m[r.Intn(len(m))][1]
				}
			}
			text += line + "\n"
		}
		holdText(t, text)
	}
}

func TestP6_1_Find(t *testing.T) {
	l := store()
	for i, n := range l.Nodes {
		if at := Find(l, n.Name); at != i {
			t.Errorf("Find(%q) = %d, want %d", n.Name, at, i)
		}
	}
	for _, name := range []string{"", "q", "A", "a ", " a", "s", "s11", "station", "station99", "track", "slot", "\x00", strings.Repeat("a", 5000)} {
		if at := Find(l, name); at != -1 {
			t.Errorf("Find(%q) = %d, want -1", name, at)
		}
	}
	full := tracks(40, 0)
	if at := Find(full, "track039"); at != 39 {
		t.Errorf("Find of the last of 40 = %d", at)
	}
	if at := Find(api.Layout{}, "a"); at != -1 {
		t.Errorf("Find where there is no node = %d", at)
	}
}

func TestP6_1_Out(t *testing.T) {
	l := store()
	want := [][]int{{1, 3, 12}, {4}, {2, 6, 9}, {7}, {5}, {8}, nil, {11}, {10}}
	for node, devices := range want {
		if got := Out(l, node); !slices.Equal(got, devices) {
			t.Errorf("Out(%d) = %v, want %v", node, got, devices)
		}
	}
	for _, node := range []int{-1, 9, 10, math.MinInt, math.MaxInt, 1 << 32} {
		if got := Out(l, node); len(got) != 0 {
			t.Errorf("Out(%d) = %v, want none", node, got)
		}
	}
	if got := Out(api.Layout{}, 0); len(got) != 0 {
		t.Errorf("Out where there is no node = %v", got)
	}
	full := tracks(40, 120)
	var all []int
	for node := range 40 {
		all = append(all, Out(full, node)...)
	}
	for i, device := range all {
		if device != i+1 {
			t.Fatalf("the devices of 120 edges: %v", all)
		}
	}
	if len(all) != 120 {
		t.Errorf("%d devices of 120 edges", len(all))
	}
}

// What is no layout is looked through all the same: of what is no node none goes, though an edge says so.
func TestP6_1_FindAndOutOfWhatIsNoLayout(t *testing.T) {
	l := api.Layout{Nodes: []api.Node{{Name: "a"}, {Name: ""}}, Edges: [][2]int{{-1, 0}, {2, 0}, {0, 5}, {0, 0}, {1, -9}}}
	for node, want := range map[int][]int{-1: nil, 0: {3, 4}, 1: {5}, 2: nil} {
		if got := Out(l, node); !slices.Equal(got, want) {
			t.Errorf("Out(%d) = %v, want %v", node, got, want)
		}
	}
	if Find(l, "a") != 0 || Find(l, "") != 1 || Find(l, "b") != -1 {
		t.Error("Find")
	}
}

func TestP6_2_TextsAndLayouts(t *testing.T) {
	for _, l := range []api.Layout{store(), tracks(1, 0), tracks(40, 120), tracks(40, 119), tracks(39, 120), tracks(2, 2)} {
		text, e := Show(l)
		if e != api.OK || len(text) > 4096 {
			t.Fatalf("Show: %d bytes, %d", len(text), e)
		}
		back, line, e := Parse(text)
		if !same(back, l) || line != 0 || e != api.OK {
			t.Fatalf("Parse of the text of %v = %v, %d, %d", l, back, line, e)
		}
	}
	long := tracks(40, 120)
	for i := range long.Nodes {
		long.Nodes[i].Kind = api.NStation
		if i < 4 {
			long.Nodes[i].Kind = api.NTrack
		}
	}
	holdLayout(t, long)
	if text, _ := Show(long); len(text) != 40*len("node track000 station 0\n")-4*len("on")+120*len("edge track000 track000\n") {
		t.Errorf("the longest text has %d bytes", len(text))
	}
}

func TestP6_2_LayoutsByChance(t *testing.T) {
	r := rand.New(rand.NewSource(62))
	for range 3000 {
		var l api.Layout
		for i := range 1 + r.Intn(41) {
			l.Nodes = append(l.Nodes, api.Node{Name: fmt.Sprintf("%c%d", 'a'+rune(r.Intn(26)), i), Kind: 1 + r.Intn(4), Zone: r.Intn(8)})
		}
		seen := map[[2]int]int{}
		for range r.Intn(130) {
			e := [2]int{r.Intn(len(l.Nodes)), r.Intn(len(l.Nodes))}
			if r.Intn(500) != 0 && (seen[e] > 0 || e[0] == e[1] || l.Nodes[e[0]].Kind != 1 && l.Nodes[e[1]].Kind != 1) {
				continue
			}
			seen[e]++
			l.Edges = append(l.Edges, e)
		}
		holdLayout(t, l)
	}
}

func TestP6_3_WhatIsHandedInStays(t *testing.T) {
	nodes := append(store().Nodes, api.Node{Name: "spare", Kind: 9, Zone: 9}, api.Node{Name: "room"})
	edges := append(store().Edges, [2]int{77, 78}, [2]int{79, 80})
	l := api.Layout{Nodes: nodes[:9], Edges: edges[:12]}
	keptNodes, keptEdges := slices.Clone(nodes), slices.Clone(edges)
	for range 2 {
		if e := Check(l); e != api.OK {
			t.Fatal(e)
		}
		if text, e := Show(l); text != storeText || e != api.OK {
			t.Fatal(text, e)
		}
		Find(l, "g0")
		Find(l, "none")
		for node := -1; node <= 9; node++ {
			d := Out(l, node)
			d = append(d, 1, 2, 3)
			for i := range d {
				d[i] = -5
			}
		}
	}
	wrong := clone(l)
	wrong.Edges[3] = [2]int{0, 0}
	keptWrong := clone(wrong)
	Check(wrong)
	Show(wrong)
	if !slices.Equal(nodes, keptNodes) || !slices.Equal(edges, keptEdges) || !same(wrong, keptWrong) {
		t.Error("what was handed in was changed")
	}
	text := []byte(storeText)
	Parse(string(text))
	if string(text) != storeText {
		t.Error("the text was changed")
	}
}

// A layout that was answered shares nothing with another answer, with the text, or with what is handed in behind it.
func TestP6_3_AnswersAreNewMemory(t *testing.T) {
	first, _, _ := Parse(storeText)
	second, _, _ := Parse(storeText)
	for i := range first.Nodes {
		first.Nodes[i] = api.Node{Name: "gone"}
	}
	for i := range first.Edges {
		first.Edges[i] = [2]int{-1, -1}
	}
	_ = append(first.Nodes, api.Node{Name: "more"})
	_ = append(first.Edges, [2]int{9, 9})
	if !same(second, store()) {
		t.Error("two answers share memory")
	}
	if third, _, _ := Parse(storeText); !same(third, store()) {
		t.Error("an answer is kept")
	}
	one, two := Out(second, 0), Out(second, 0)
	for i := range one {
		one[i] = -1
	}
	_ = append(one[:1], 99, 99)
	if !slices.Equal(two, []int{1, 3, 12}) || !slices.Equal(Out(second, 0), []int{1, 3, 12}) {
		t.Error("lists of devices share memory")
	}
	shown, _ := Show(second)
	second.Nodes[0].Name = "other"
	if shown != storeText {
		t.Error("a text changes with its layout")
	}
}

// A text's bytes aren't changed by the language's means, but a name that is cut out of it would keep the whole of it.
func TestP6_3_NamesAreCutLooseFromTheText(t *testing.T) {
	text := strings.Repeat("#", 100) + "\n" + storeText
	begin := uintptr(unsafe.Pointer(unsafe.StringData(text)))
	l, _, _ := Parse(text)
	for _, n := range l.Nodes {
		at := uintptr(unsafe.Pointer(unsafe.StringData(n.Name)))
		if at >= begin && at < begin+uintptr(len(text)) {
			t.Errorf("the Name %q lies in the text", n.Name)
		}
	}
}

// The same answer for the same thing, how often it is asked, nil or empty, with or without spare room.
func TestP7_LayoutCallsHangOnTheirArgumentsAlone(t *testing.T) {
	for range 20 {
		if l, line, e := Parse(storeText); !same(l, store()) || line != 0 || e != api.OK {
			t.Fatal(l, line, e)
		}
		if _, line, e := Parse(storeText + "edge a q\nedge a r\n"); line != 22 || e != api.ErrLayout {
			t.Fatal(line, e)
		}
	}
	nodes := store().Nodes[:1:1]
	for _, edges := range [][][2]int{nil, {}, make([][2]int, 0, 5)} {
		l := api.Layout{Nodes: nodes, Edges: edges}
		if text, e := Show(l); text != "node a track 0\n" || e != api.OK || len(Out(l, 0)) != 0 {
			t.Errorf("Show = %q, %d", text, e)
		}
	}
}
