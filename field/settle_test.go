package field

import (
	"fmt"
	"math"
	"math/rand"
	"slices"
	"testing"

	"stillage/api"
)

// TestP22_1_SettleOfADeadOne: nothing is done, whatever is under way.
func TestP22_1_SettleOfADeadOne(t *testing.T) {
	d := newDouble(t, single(), 1, [2]int{5, 0})
	d.does(order(1, 2, 5), act(Tick), act(TwiceDown), act(Break, 3), act(Arm, 0))
	d.fails(api.ErrDead, act(Cancel, 1))
	was := lookAt(d.f)
	for _, n := range append(numbers(10000), 2, 100) {
		d.settles(n, 0, api.ErrDead)
		if now := lookAt(d.f); now != was {
			t.Fatalf("%s, was %s", now, was)
		}
	}
	d.lines(2, 1)
	// One that would be settled, were it alive.
	d = newDouble(t, single(), 1, [2]int{5, 0})
	d.does(act(Arm, 0))
	d.fails(api.ErrDead, order(1, 2, 5))
	d.settles(5, 0, api.ErrDead)
	d.settles(0, 0, api.ErrDead)
	d.settles(-1, 0, api.ErrDead)
}

// TestP22_1_SettleOfNoRounds: nothing is done.
func TestP22_1_SettleOfNoRounds(t *testing.T) {
	d := newDouble(t, single(), 1, [2]int{5, 0})
	d.does(order(1, 2, 5), act(Tick), act(TwiceDown), act(Break, 3))
	was := lookAt(d.f)
	for _, n := range []int{0, -1, -2, -10000, -10001, math.MinInt} {
		d.settles(n, 0, api.OK)
		if now := lookAt(d.f); now != was {
			t.Fatalf("%s, was %s", now, was)
		}
	}
}

// TestP22_1_SettleByRounds: each a tick, then all that it brings about, in both lines.
func TestP22_1_SettleByRounds(t *testing.T) {
	d := newDouble(t, example(), 3, [2]int{5, 1})
	d.does(order(7, 2, 5))
	d.settles(1, 1, api.OK)
	d.at(5, 0, 0)
	d.path(5, 2)
	d.lines(0, 0)
	d.states(7, 1)
	d.settles(1, 1, api.OK)
	d.at(5, 2, 2)
	d.states(7, 1)
	d.settles(1, 1, api.OK)
	d.states(7, 2)
	d.settles(1, 0, api.OK)

	// What is in the lines goes, too, from the first one on: in the line down first.
	d = newDouble(t, apart(), 3, [2]int{5, 1}, [2]int{6, 4})
	d.does(act(Break, 11), act(Break, 10), act(Mend, 11), order(1, 2, 5), act(Tick), act(TwiceDown), act(TwiceDown), order(2, 5, 6))
	d.settles(1, 1, api.OK)
	d.lines(0, 0)
	d.at(5, 0, 0)
	d.at(6, 3, 3)
	d.moves(2)
	if down := d.f.control.Down(); !slices.Equal(down, []int{11}) {
		t.Fatalf("%v are down", down)
	}
}

// TestP22_1_SettleTakesTheFirstOnes: of each line; the power goes as the second move is heard.
func TestP22_1_SettleTakesTheFirstOnes(t *testing.T) {
	for _, late := range []bool{false, true} {
		d := newDouble(t, apart(), 9, [2]int{5, 1}, [2]int{6, 4})
		d.does(order(1, 2, 5), order(2, 5, 6), act(Tick))
		if late {
			d.does(act(TwiceDown), act(LoseDown)) // now the first one is the second one
		}
		d.does(act(Arm, 8))
		d.settles(1, 1, api.OK)
		d.does(act(Crash))
		if late {
			d.at(5, 1, 0)
			d.at(6, 3, 3)
		} else {
			d.at(5, 0, 0)
			d.at(6, 4, 3)
		}
	}
}

// TestP22_1_SettleWhereNothingIsToBeDone: no round, not even where telegrams are in the lines, or a tote isn't in a slot.
func TestP22_1_SettleWhereNothingIsToBeDone(t *testing.T) {
	for _, n := range []int{0, 1, 5, 10000, 10001, math.MaxInt} {
		for _, l := range layouts() {
			newDouble(t, l, 3).settles(n, 0, api.OK)
		}
		d := newDouble(t, star(), 3, [2]int{5, 0}, [2]int{6, 4})
		d.does(act(Break, 1), act(Mend, 1))
		was := lookAt(d.f)
		d.settles(n, 0, api.OK)
		if now := lookAt(d.f); now != was {
			t.Fatalf("%s, was %s", now, was)
		}
	}
}

// TestP22_1_SettleAsLongAsSomethingIs: an open request alone, a device that is told alone, a path alone.
func TestP22_1_SettleAsLongAsSomethingIs(t *testing.T) {
	// A request, for which there is no way by now.
	d := newDouble(t, example(), 3, [2]int{5, 1})
	d.does(order(7, 2, 5), act(Break, 1), act(Up))
	d.settles(4, 4, api.OK)
	d.moves(0)
	d.does(act(Mend, 1), act(Up))
	d.settles(100, 3, api.OK)
	d.states(7, 2)

	// A device, by another life's job; the request is cancelled.
	d = newDouble(t, example(), 3, [2]int{5, 1})
	d.does(order(7, 2, 5), act(Tick), act(LoseDown), act(Cancel, 7), act(Crash))
	d.settles(100, 3, api.OK) // told again by the third tick
	d.at(5, 0, 0)
	d.moves(1)

	// A path, whose next device nobody told yet; the request is cancelled.
	d = newDouble(t, example(), 3, [2]int{5, 1})
	d.does(order(7, 2, 5), act(Tick), act(Down), act(Up), act(Cancel, 7))
	d.path(5, 2)
	d.settles(100, 1, api.OK)
	d.at(5, 2, 2)
}

// TestP22_1_SettleThatEndsAhead: with as many rounds as there are to be done, and never more.
func TestP22_1_SettleThatEndsAhead(t *testing.T) {
	for n := -1; n < 12; n++ {
		d := newDouble(t, single(), 3, [2]int{5, 0})
		d.does(order(1, 2, 5))
		d.settles(n, min(max(n, 0), 4), api.OK) // to the station in two rounds, and back, the first of which serves
		d.settles(100, 4-min(max(n, 0), 4), api.OK)
		d.moves(4)
	}
}

// TestP22_1_SettleThatNeverWould: it does as many rounds as it is asked for, 10000 at most.
func TestP22_1_SettleThatNeverWould(t *testing.T) {
	for n, want := range map[int]int{1: 1, 7: 7, 9999: 9999, 10000: 10000, 10001: 10000, 1 << 40: 10000, math.MaxInt: 10000} {
		d := newDouble(t, example(), 3, [2]int{5, 1})
		d.does(order(7, 2, 5), act(Break, 0))
		d.settles(n, want, api.OK)
		d.states(7, 1)
		d.does(act(Mend, 0))
		d.settles(100, 5-(want-1)%3, api.OK) // told again as the pause is over: it began with the first round
		d.states(7, 2)
	}
}

// TestP22_1_SettleWhosePowerGoes: at each byte; how many rounds there were ahead of the tick that failed, and its error.
func TestP22_1_SettleWhosePowerGoes(t *testing.T) {
	rounds := map[int]int{}
	for units := range 80 {
		d := newDouble(t, single(), 3, [2]int{5, 0})
		d.does(order(1, 2, 5), act(Arm, units))
		n, e := d.settle(100)
		if (e == api.OK) == d.f.Dead() {
			t.Fatalf("%d units: %d, %d", units, n, e)
		}
		if e == api.OK {
			break
		}
		rounds[n]++
		d.settles(100, 0, api.ErrDead)
	}
	// In the first round the device is told by the tick, and the move is heard; in the third one the request is served, too.
	for n, least := range []int{5, 10, 10, 10, 5} {
		if rounds[n] < least {
			t.Errorf("%d rounds: %d times", n, rounds[n])
		}
	}

	// What it hears doesn't end it, though it dies by that.
	d := newDouble(t, single(), 3, [2]int{5, 0})
	d.does(order(1, 2, 5), act(Tick), act(Down), act(Arm, 0))
	d.fails(api.ErrDead, act(Up))
	d = newDouble(t, single(), 3, [2]int{5, 0})
	d.does(order(1, 2, 5), act(Tick), act(LoseDown), act(Break, 3), act(Break, 3), act(Arm, 0))
	d.settles(1, 1, api.OK)
	d.lines(0, 0)
	if !d.f.Dead() {
		t.Error("it isn't dead")
	}
}

// shortest is how long the shortest way around all totes is from one node to another, by devices in order, looked for one edge farther each
// time; -1, if there is none.
func shortest(l api.Layout, broken map[int]bool, full map[int]bool, from, to int) int {
	been := map[int]bool{from: true}
	ends := []int{from}
	for far := 1; len(ends) > 0; far++ {
		var next []int
		for _, end := range ends {
			for i, edge := range l.Edges {
				if edge[0] != end || broken[i+1] || been[edge[1]] || full[edge[1]] {
					continue
				}
				if edge[1] == to {
					return far
				}
				been[edge[1]] = true
				if l.Nodes[edge[1]].Kind == api.NTrack {
					next = append(next, edge[1])
				}
			}
		}
		ends = next
	}
	return -1
}

// inSlots are some totes, each in a slot of its own.
func inSlots(l api.Layout, rnd *rand.Rand) [][2]int {
	numbers := rnd.Perm(30)
	var totes [][2]int
	for node, n := range l.Nodes {
		if n.Kind == api.NSlot && rnd.Intn(4) > 0 {
			totes = append(totes, [2]int{1 + numbers[node%30], node})
		}
	}
	return totes
}

// TestP22_5_ItComesToItsEnd: with each request of each tote to each station.
func TestP22_5_ItComesToItsEnd(t *testing.T) {
	t.Parallel()
	lengths := map[int]int{}
	for at, l := range layouts() {
		for seed := range 4 {
			totes := inSlots(l, rand.New(rand.NewSource(int64(100*at+seed))))
			full := map[int]bool{}
			for _, one := range totes {
				full[one[1]] = true
			}
			for _, one := range totes {
				for station, n := range l.Nodes {
					far := shortest(l, nil, full, one[1], station)
					if n.Kind != api.NStation || far < 0 {
						continue
					}
					lengths[far]++
					for _, more := range []int{-1, 0, 1, 100} {
						d := newDouble(t, l, 1+seed, totes...)
						d.does(order(9, station, one[0]))
						rounds, _ := d.settle(far + more)
						if want := min(2, 2+min(0, more-1)); d.f.State(9) != max(1, want) || rounds > far+more {
							t.Fatalf("%v, %d to %d, %d rounds: %d, state %d", totes, one[0], station, far+more, rounds, d.f.State(9))
						}
					}
				}
			}
		}
	}
	for far := 2; far < 6; far++ {
		if lengths[far] < 4 {
			t.Errorf("%d ways are %d long", lengths[far], far)
		}
	}
}

// TestP5_AroundTotesAndDevices: with some totes in slots, some elsewhere, and some devices out of order of which the controller has heard:
// wherever a way is.
func TestP5_AroundTotesAndDevices(t *testing.T) {
	t.Parallel()
	count := map[string]int{}
	for at, l := range []api.Layout{star(), loop(), ladder(), wide(), ladder(), wide()} {
		for seed := range 30 {
			rnd := rand.New(rand.NewSource(int64(1000*at + seed)))
			totes := inSlots(l, rnd)
			d := newDouble(t, l, 1+rnd.Intn(9), totes...)
			broken := map[int]bool{}
			for range rnd.Intn(1 + len(l.Edges)/4) {
				i := rnd.Intn(len(l.Edges))
				broken[i+1] = true
				d.f.Do(act(Break, i))
				d.f.Do(act(Up))
				d.w.do(act(Break, i))
				d.w.do(act(Up))
			}
			if rnd.Intn(3) == 0 {
				d.does(act(Crash))
			}
			full := map[int]bool{}
			for _, one := range totes {
				full[one[1]] = true
			}
			for _, one := range totes {
				var stations []int
				for node, n := range l.Nodes {
					if n.Kind == api.NStation {
						stations = append(stations, node)
					}
				}
				station := stations[rnd.Intn(len(stations))]
				far := shortest(l, broken, full, one[1], station)
				if d.do(order(one[0], station, one[0])) != api.OK {
					continue
				}
				if far < 0 {
					d.settles(9, 9, api.OK)
					d.states(one[0], 1)
					d.does(act(Cancel, one[0]))
					count["no way"]++
					continue
				}
				d.settle(far + 1)
				d.states(one[0], 2)
				count["a way"]++
				if far > shortest(l, nil, nil, one[1], station) {
					count["a way around"]++
				}
				// Back to a slot, else the next request isn't all that goes on.
				d.settle(50)
				delete(full, one[1])
				full[d.f.Real(one[0])] = true
				if l.Nodes[d.f.Real(one[0])].Kind != api.NSlot {
					count["not back"]++
					break
				}
			}
		}
	}
	for _, way := range []string{"no way", "a way", "a way around", "not back"} {
		if count[way] < 10 {
			t.Errorf("%s: %d times", way, count[way])
		}
	}
}

// TestP22_5_BehindAll: behind any acts, once all is in a slot, in order and known to be so.
func TestP22_5_BehindAll(t *testing.T) {
	t.Parallel()
	served := 0
	for at, l := range []api.Layout{single(), star(), loop(), ladder(), apart(), wide()} {
		for run := range 60 {
			d, j := chanceRun(t, l, 100, 9000+100*at+run, func(*double, *judge, Act, api.Errno) {})
			d.does(act(Crash))
			for _, r := range d.f.Requests() {
				d.does(act(Cancel, r.ID))
			}
			for a, b := d.f.Lines(); a+b > 0; a, b = d.f.Lines() {
				d.does(act(LoseDown), act(LoseUp))
			}
			for i := range l.Edges {
				d.does(act(Mend, i))
				d.do(act(Up))
			}
			d.does(act(Tick)) // what merely stands about is no reason for a round
			d.settle(100)
			full := map[int]bool{}
			others := 0
			for _, one := range j.totes {
				if full[d.f.Real(one[0])] = true; l.Nodes[d.f.Real(one[0])].Kind != api.NSlot {
					others++
				}
			}
			if others > 0 {
				continue
			}
			for _, one := range j.totes {
				for station, n := range l.Nodes {
					far := shortest(l, nil, full, d.f.Real(one[0]), station)
					if n.Kind != api.NStation || far < 0 {
						continue
					}
					id := 1000 + served
					d.does(order(id, station, one[0]))
					was := d.f.Real(one[0])
					d.settle(far + 1)
					d.states(id, 2)
					served++
					d.settle(50)
					delete(full, was)
					full[d.f.Real(one[0])] = true
					if l.Nodes[d.f.Real(one[0])].Kind != api.NSlot {
						others++
					}
				}
				if others > 0 {
					break
				}
			}
		}
	}
	if served < 100 {
		t.Error(fmt.Sprint(served, " served"))
	}
}
