package field

import (
	"fmt"
	"math"
	"math/rand"
	"slices"
	"testing"

	"stillage/api"
)

// watched is a double that a judge looks at, too.
func watched(t testing.TB, l api.Layout, pause int, totes [][2]int) (*double, *judge) {
	t.Helper()
	d := newDouble(t, l, pause, totes...)
	j := newJudge(t, d.f, l, totes)
	j.by = d.do
	return d, j
}

// everyList does each list of so many acts, behind those ahead.
func everyList(t *testing.T, l api.Layout, pause int, totes [][2]int, ahead, choose []Act, length int) {
	t.Helper()
	lists := 1
	for range length {
		lists *= len(choose)
	}
	for list := range lists {
		_, j := watched(t, l, pause, totes)
		for _, a := range ahead {
			j.do(a)
		}
		for range length {
			j.do(choose[list%len(choose)])
			list /= len(choose)
		}
	}
}

func TestP22_1_EveryShortListOfActs(t *testing.T) {
	t.Parallel()
	totes := [][2]int{{5, 0}}
	ahead := []Act{order(1, 2, 5)}
	all := append(acts(Tick, Down, Up, LoseDown, LoseUp, TwiceDown, TwiceUp, Break, Mend, Crash), act(Cancel, 1), act(Arm, 4))
	everyList(t, single(), 2, totes, append(ahead, act(Tick)), all, 3)
	some := acts(Tick, Down, Up, TwiceDown, TwiceUp, Break, Mend, Crash)
	everyList(t, single(), 1, totes, ahead, some, 4)
	everyList(t, single(), 2, totes, append(ahead, acts(Tick, Down, Up, TwiceUp)...), acts(Tick, Down, Up, TwiceDown, Crash), 5)
}

func TestP22_1_EveryShortListWithTwoTotes(t *testing.T) {
	t.Parallel()
	totes := [][2]int{{5, 1}, {6, 4}}
	ahead := []Act{order(1, 2, 5), order(2, 5, 6), act(Tick)}
	everyList(t, apart(), 2, totes, ahead, []Act{act(Tick), act(Down, -1), act(Up), act(Up, 1), act(TwiceDown, 1), act(Crash), act(Break, 4), act(Arm, 8)}, 4)
	totes = [][2]int{{5, 1}, {6, 2}}
	ahead = []Act{order(1, 4, 5), order(2, 4, 6), act(Tick), act(Down), act(Up)}
	everyList(t, star(), 1, totes, ahead, []Act{act(Tick), act(Down), act(Down, 1), act(Up), act(TwiceUp), act(Crash), act(Cancel, 1), order(3, 5, 6)}, 4)
}

// chance makes acts up.
type chance struct {
	*rand.Rand
	l     api.Layout
	f     *Field
	totes [][2]int
	next  int // the ID that no request has yet
	often map[int]int
	late  bool // whether the last telegrams of a line mostly go first, so that the first ones stay long
}

// manners are how often, beside Tick, Down and Up, the acts of the Kinds come.
func manners() []map[int]int {
	calm := map[int]int{Tick: 280, Down: 300, Up: 300, Order: 60, Crash: 1}
	return []map[int]int{
		calm,
		{Tick: 280, Down: 200, Up: 200, LoseDown: 30, LoseUp: 30, TwiceDown: 40, TwiceUp: 40, Break: 8, Mend: 24, Order: 60, Cancel: 8, Noise: 25, Arm: 8, Crash: 12, 99: 2},
		{Tick: 200, Down: 150, Up: 150, LoseDown: 20, LoseUp: 20, TwiceDown: 120, TwiceUp: 160, Order: 60, Crash: 10, Break: 3, Mend: 10}, // jammed
		{Tick: 250, Down: 220, Up: 220, Break: 40, Mend: 110, Order: 70, Cancel: 30, Crash: 10, TwiceDown: 10, TwiceUp: 10},               // out of order
		{Tick: 250, Down: 220, Up: 220, TwiceDown: 20, TwiceUp: 20, LoseDown: 4, LoseUp: 4, Order: 60, Crash: 5},                          // late
		{Tick: 250, Down: 220, Up: 220, Arm: 90, Crash: 30, Order: 80, Cancel: 50, LoseUp: 10, TwiceDown: 10, Break: 3, Mend: 10},         // without power
	}
}

func newChance(l api.Layout, totes [][2]int, f *Field, seed int) *chance {
	manner := seed % len(manners())
	return &chance{rand.New(rand.NewSource(int64(seed))), l, f, totes, 0, manners()[manner], manner == 4}
}

func (r *chance) one(l ...int) int { return l[r.Intn(len(l))] }

// kind is one by how often each comes.
func (r *chance) kind() int {
	all := 0
	for _, times := range r.often {
		all += times
	}
	n := r.Intn(all)
	for kind := range 100 {
		if n -= r.often[kind]; n < 0 {
			return kind
		}
	}
	return Tick
}

func (r *chance) number(length int) int {
	if r.late && r.Intn(12) > 0 {
		return max(0, length-1)
	}
	if r.Intn(3) > 0 || length == 0 {
		return 0
	}
	return r.one(r.Intn(length), r.Intn(length), length-1, -1-r.Intn(length), r.Int(), math.MinInt, math.MaxInt)
}

// device is mostly one that matters now: next on a path, or out of order, as is asked for.
func (r *chance) device(broken bool) int {
	var all []int
	for _, one := range r.totes {
		if path := r.f.Path(one[0]); len(path) > 0 {
			all = append(all, path[0]-1)
		}
	}
	for i := range r.l.Edges {
		if broken && !r.f.plant.Works(1+i) {
			all = append(all, i, i, i)
		}
	}
	if len(all) == 0 || r.Intn(6) == 0 {
		return r.number(len(r.l.Edges))
	}
	return all[r.Intn(len(all))]
}

func (r *chance) order() Act {
	stations := []int{}
	for node, n := range r.l.Nodes {
		if n.Kind == api.NStation {
			stations = append(stations, node)
		}
	}
	if len(stations) == 0 || r.Intn(15) == 0 {
		stations = []int{r.Intn(len(r.l.Nodes)), -1, 40, math.MinInt}
	}
	tote := r.one(0, 31, 1+r.Intn(30))
	if len(r.totes) > 0 && r.Intn(12) > 0 {
		tote = r.totes[r.Intn(len(r.totes))][0]
	}
	id := r.next
	switch {
	case r.Intn(10) == 0:
		id = r.one(-1, 1<<31, r.Intn(r.next+1), r.Intn(r.next+1))
	case r.next < 38:
		r.next++
	}
	return order(id, r.one(stations...), tote)
}

func (r *chance) act() Act {
	kind := r.kind()
	if r.f.Dead() && r.Intn(3) == 0 {
		kind = Crash
	}
	down, up := r.f.Lines()
	switch kind {
	case Down, LoseDown, TwiceDown:
		return act(kind, r.number(down))
	case Up, LoseUp, TwiceUp:
		return act(kind, r.number(up))
	case Break, Mend:
		return act(kind, r.device(kind == Mend))
	case Order:
		return r.order()
	case Cancel:
		return act(kind, r.one(r.Intn(r.next+1), r.Intn(r.next+1), r.next, -1))
	case Noise:
		if r.Intn(2) == 0 {
			return noise(bytesOf(telegrams()[r.Intn(len(telegrams()))]))
		}
		all := noTelegrams()
		same := all[api.Errno(r.one(int(api.ErrLength), int(api.ErrMark), int(api.ErrSum), int(api.ErrKind), int(api.ErrField)))]
		return noise(same[r.Intn(len(same))])
	case Arm:
		return act(kind, r.one(r.Intn(30), r.Intn(60), r.Intn(60), 1<<40, -1))
	}
	return act(kind)
}

// someTotes are at nodes of all Kinds, mostly in slots.
func someTotes(l api.Layout, rnd *rand.Rand) [][2]int {
	totes, nodes := rnd.Perm(30), rnd.Perm(len(l.Nodes))
	var all [][2]int
	for i := range 1 + rnd.Intn(max(1, len(l.Nodes)/3)) {
		if l.Nodes[nodes[i]].Kind == api.NSlot || rnd.Intn(2) == 0 {
			all = append(all, [2]int{1 + totes[i], nodes[i]})
		}
	}
	return all
}

// chanceRun does acts by chance, each watched by the double and by the judge.
func chanceRun(t testing.TB, l api.Layout, times, seed int, behind func(d *double, j *judge, a Act, e api.Errno)) (*double, *judge) {
	t.Helper()
	rnd := rand.New(rand.NewSource(int64(seed) + 1e6))
	totes := someTotes(l, rnd)
	d, j := watched(t, l, []int{1, 1, 2, 3, 9}[rnd.Intn(5)], totes)
	r := newChance(l, totes, d.f, seed)
	for range times {
		a := r.act()
		e := j.do(a)
		behind(d, j, a, e)
	}
	return d, j
}

// TestP22_2_LongListsOfActs: each act answers by the words, and behind each one all promises hold, on all layouts.
func TestP22_2_LongListsOfActs(t *testing.T) {
	t.Parallel()
	count := map[string]int{}
	for at, l := range layouts() {
		for run := range 25 {
			chanceRun(t, l, 300, 100*at+run, func(d *double, j *judge, a Act, e api.Errno) {
				count[fmt.Sprint(show(Act{Kind: a.Kind})[:2], a.Kind, " ", int(e))]++
				countState(count, d, j)
			})
		}
	}
	for _, way := range []string{
		"Ti1 0", "Ti1 190", "Do2 0", "Up3 0", "Up3 40", "Up3 190", "Lo4 0", "Lo5 0", "Tw6 0", "Tw7 0", "Br8 0", "Me9 0",
		"Or10 0", "Or10 1", "Or10 2", "Or10 160", "Or10 161", "Or10 190", "Ca11 0", "Ca11 4", "Ca11 140", "Ca11 190",
		"No12 0", "No12 20", "No12 21", "No12 22", "No12 23", "No12 24", "Ar13 0", "Ar13 1", "Ar13 190", "Cr14 0",
		"full down", "full up", "ahead", "two ahead", "told, not done", "told and out of order", "two paths", "served", "two served", "a dead one", "a dead one ahead",
	} {
		if count[way] < 5 {
			t.Errorf("%s: %d times", way, count[way])
		}
	}
}

// countState counts states that are to come about now and then.
func countState(count map[string]int, d *double, j *judge) {
	f := d.f
	down, up := f.Lines()
	ahead, told, broken, paths, served := 0, 0, 0, 0, 0
	for dev := 1; dev <= len(j.l.Edges); dev++ {
		if tote, _, is := f.Told(dev); is {
			told++
			if f.Real(tote) == j.l.Edges[dev-1][1] {
				ahead++
			}
			if !f.plant.Works(dev) {
				broken++
			}
		}
	}
	for _, one := range j.totes {
		if len(f.Path(one[0])) > 0 {
			paths++
		}
	}
	for node := range j.l.Nodes {
		served += len(f.Served(node))
	}
	for what, is := range map[string]bool{
		"full down": down == 64, "full up": up == 64, "ahead": ahead > 0, "two ahead": ahead > 1, "told, not done": told > ahead,
		"told and out of order": broken > 0, "two paths": paths > 1, "served": served > 0, "two served": served > 1,
		"a dead one": f.Dead(), "a dead one ahead": f.Dead() && ahead > 0,
	} {
		if is {
			count[what]++
		}
	}
}

// TestP1_ManyTotes: on a great layout with up to 30 totes, each wanted at some station.
func TestP1_ManyTotes(t *testing.T) {
	t.Parallel()
	l := wide()
	moves := 0
	for run := range 10 {
		rnd := rand.New(rand.NewSource(int64(run)))
		var totes [][2]int
		nodes := rnd.Perm(40)
		for tote := 1; tote <= 3+3*run; tote++ {
			totes = append(totes, [2]int{tote, nodes[tote]})
		}
		f, e := New(l, 2, totes)
		if e != api.OK {
			t.Fatalf("New: %d", e)
		}
		j := newJudge(t, f, l, totes)
		r := newChance(l, totes, f, run)
		for range 150 {
			for range rnd.Intn(6) {
				j.do(r.act())
			}
			if f.Dead() {
				j.do(act(Crash))
			}
			j.do(act(Tick))
			for down, up := f.Lines(); down > 0 && rnd.Intn(8) > 0; down, up = f.Lines() {
				j.do(act(Down, rnd.Int()))
				if up > 0 {
					j.do(act(Up, rnd.Int()))
				}
			}
		}
		moves += f.Moves()
	}
	if moves < 400 {
		t.Errorf("%d moves", moves)
	}
}

// TestP4_ServedInOrderAfterAll: behind any acts, when all is mended and nothing is lost any more, what can be is served yet.
func TestP4_ServedInOrderAfterAll(t *testing.T) {
	t.Parallel()
	served, crashes := 0, 0
	for at, l := range []api.Layout{example(), single(), star(), loop(), ladder(), apart(), wide()} {
		for run := range 20 {
			d, j := chanceRun(t, l, 120, 100*at+run+7000, func(d *double, j *judge, a Act, e api.Errno) {
				if a.Kind == Crash {
					crashes++
				}
			})
			j.by = d.f.Do
			j.do(act(Crash))
			for i := range l.Edges {
				j.do(act(LoseUp))
				j.do(act(Mend, i))
				_, up := d.f.Lines()
				j.do(act(Up, up-1))
			}
			j.settle(60)
			for node := range l.Nodes {
				served += len(d.f.Served(node))
			}
		}
	}
	if served < 150 || crashes < 100 {
		t.Errorf("%d served, %d crashes", served, crashes)
	}
}

// TestP2_NotedInTheOrderInWhichTheyWereDone: of all moves, where the lines keep the order and lose nothing.
func TestP2_NotedInTheOrderInWhichTheyWereDone(t *testing.T) {
	most := 0
	for at, l := range layouts() {
		for run := range 6 {
			totes := someTotes(l, rand.New(rand.NewSource(int64(10*at+run))))
			f, _ := New(l, 30, totes)
			j := newJudge(t, f, l, totes)
			r := newChance(l, totes, f, 0)
			for range 200 {
				a := r.act()
				a.N = 0
				j.do(a)
				noted := factsOf(l, f.tape.Read()).noted
				if !slices.Equal(noted, j.done[:min(len(noted), len(j.done))]) {
					t.Fatalf("behind %v: noted are %v, done %v", j.said, noted, j.done)
				}
				most = max(most, len(noted))
			}
		}
	}
	if most < 15 {
		t.Errorf("%d moves at most", most)
	}
}

// TestP2_HeardInAnotherOrder: two totes, the second of which is told, moves and is heard of ahead of the first; each move has its note.
func TestP2_HeardInAnotherOrder(t *testing.T) {
	l := apart()
	totes := [][2]int{{5, 1}, {6, 4}}
	d, j := watched(t, l, 9, totes)
	for _, c := range []struct {
		a                     Act
		mirror5, real5        int
		mirror6, real6, moves int
	}{
		{order(1, 2, 5), 1, 1, 4, 4, 0}, {order(2, 5, 6), 1, 1, 4, 4, 0}, {act(Tick), 1, 1, 4, 4, 0},
		{act(Down, 1), 1, 1, 4, 3, 1}, {act(Down), 1, 0, 4, 3, 2}, {act(Up, 1), 0, 0, 4, 3, 2}, {act(Up), 0, 0, 3, 3, 2},
		{act(Tick), 0, 0, 3, 3, 2}, {act(TwiceDown), 0, 0, 3, 3, 2}, {act(Down, 2), 0, 2, 3, 3, 3}, {act(Down), 0, 2, 3, 3, 3},
		{act(Crash), 0, 2, 3, 3, 3}, {act(Up), 2, 2, 3, 3, 3}, {act(LoseUp), 2, 2, 3, 3, 3}, {act(Down), 2, 2, 3, 5, 4}, {act(Up), 2, 2, 5, 5, 4},
	} {
		j.do(c.a)
		d.at(5, c.mirror5, c.real5)
		d.at(6, c.mirror6, c.real6)
		d.moves(c.moves)
	}
	if noted := factsOf(l, d.f.tape.Read()).noted; !slices.Equal(noted, []move{{1, 5, 0}, {5, 6, 0}, {3, 5, 0}, {7, 6, 0}}) {
		t.Fatalf("noted are %v", noted)
	}
}

// TestP22_4_NothingMovesButByDown: and by that just what the telegram says.
func TestP22_4_NothingMovesButByDown(t *testing.T) {
	for at, l := range layouts() {
		for run := range 5 {
			last := 0
			d, _ := chanceRun(t, l, 150, 400+10*at+run, func(d *double, j *judge, a Act, _ api.Errno) {
				if moves := d.f.Moves(); moves != last && (a.Kind != Down || moves != last+1) {
					t.Fatalf("behind %v: %d moves, were %d", d.said, moves, last)
				}
				last = d.f.Moves()
			})
			// Whatever is in the line up, and wherever the power goes, no tote moves.
			was := lookAt(d.f)
			for _, kind := range []int{Tick, Up, LoseDown, LoseUp, TwiceDown, TwiceUp, Break, Mend, Cancel, Noise, Arm, Crash, 0, 99} {
				for range 3 {
					d.do(act(kind))
				}
			}
			if d.f.Moves() != last {
				t.Fatalf("behind %v: %d moves, were %d: was%s", d.said, d.f.Moves(), last, was)
			}
		}
	}
}
