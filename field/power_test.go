package field

import (
	"fmt"
	"maps"
	"testing"

	"stillage/api"
)

// story is acts as they were done while the power stayed.
type story struct {
	l     api.Layout
	pause int
	totes [][2]int
	acts  []Act
}

func (s story) begin(t *testing.T) *judge {
	t.Helper()
	f, e := New(s.l, s.pause, s.totes)
	if e != api.OK {
		t.Fatalf("New: %d", e)
	}
	return newJudge(t, f, s.l, s.totes)
}

// stories are one by hand, with each kind of note, and some by chance; none has an Arm or a Crash.
func stories(t *testing.T) []story {
	t.Helper()
	byHand := append([]Act{order(1, 2, 5), act(Tick), act(TwiceDown), act(Break, 2), act(Up), act(Down), act(TwiceUp), act(Up), act(Tick)},
		act(Mend, 2), act(Up, 1), act(Cancel, 1), order(2, 2, 5), act(Tick), act(Down), act(Down), act(Up), act(Up), act(Up), act(Tick), act(Tick), act(Down), act(Up), act(Tick))
	all := []story{{single(), 2, [][2]int{{5, 0}}, byHand}}
	for at, l := range layouts() {
		for run := range 3 {
			totes := someTotes(l, newChance(l, nil, nil, 50*at+run).Rand)
			s := story{l: l, pause: 1 + run, totes: totes}
			j := s.begin(t)
			r := newChance(l, totes, j.f, 50*at+run)
			r.often = maps.Clone(r.often)
			delete(r.often, Arm)
			delete(r.often, Crash)
			for range 80 {
				a := r.act()
				j.do(a)
				s.acts = append(s.acts, a)
			}
			all = append(all, s)
		}
	}
	return all
}

// TestP3_ThePowerGoneAtAnyByte: of each story's tape; what is opened again has all that was accepted, and a true mirror, and opened once
// more it is the same; then the story goes on, and what the lines had comes in.
func TestP3_ThePowerGoneAtAnyByte(t *testing.T) {
	t.Parallel()
	died := map[string]int{}
	for _, s := range stories(t) {
		j := s.begin(t)
		size := j.f.tape.Size()
		for _, a := range s.acts {
			j.do(a)
		}
		for units := range j.f.tape.Size() - size {
			j := s.begin(t)
			j.do(act(Arm, units))
			for _, a := range s.acts {
				wasDead := j.f.Dead()
				e := j.do(a)
				if j.f.Dead() == wasDead {
					continue
				}
				if e != api.ErrDead || j.f.tape.Size() != size+units {
					t.Fatalf("%d units: %v: %d, %d bytes, were %d", units, j.said, e, j.f.tape.Size(), size)
				}
				died[show(Act{Kind: a.Kind})]++
				if units%2 == 0 {
					j.opens() // else it stays dead for the rest of the story
				}
			}
			j.opens()
			j.settle(30)
		}
	}
	for _, way := range []string{"Tick", "Up 0", "Order{0 0 0}", "Cancel 0"} {
		if died[way] < 10 {
			t.Errorf("%s: the power went %d times", way, died[way])
		}
	}
}

// opens has the power come again, twice.
func (j *judge) opens() {
	j.t.Helper()
	down, up := j.f.Lines()
	j.crash()
	was := lookAt(j.f)
	j.crash()
	if now := lookAt(j.f); now != was {
		j.t.Fatalf("behind %v: opened once more it is%s, was%s", j.said, now, was)
	}
	if a, b := j.f.Lines(); a != down || b != up {
		j.t.Fatalf("behind %v: %d, %d in the lines, were %d, %d", j.said, a, b, down, up)
	}
}

func (j *judge) crash() {
	j.t.Helper()
	if e := j.do(act(Crash)); e != api.OK || j.f.Dead() {
		j.t.Fatalf("behind %v: %d, dead: %v", j.said, e, j.f.Dead())
	}
}

// TestP3_ThePowerGoneAgainAndAgain: each time behind a few bytes more, so that it dies in the middle of what it began anew.
func TestP3_ThePowerGoneAgainAndAgain(t *testing.T) {
	for _, s := range stories(t) {
		for _, units := range []int{0, 1, 2, 3, 5, 6, 7, 11, 13, 20} {
			j := s.begin(t)
			for i, a := range s.acts {
				if j.f.Dead() && i%3 == 0 {
					j.opens()
				}
				if !j.f.Dead() && i%4 == 0 {
					j.do(act(Arm, units+i%5))
				}
				j.do(a)
			}
			j.opens()
		}
	}
}

// TestP3_ACrashAnywhere: behind each act of each story; the controller was alive, and what it knew is known, but for the jobs.
func TestP3_ACrashAnywhere(t *testing.T) {
	t.Parallel()
	for _, s := range stories(t) {
		for at := range s.acts {
			j := s.begin(t)
			for i, a := range s.acts {
				j.do(a)
				if i != at {
					continue
				}
				was := keptBy(j.f)
				j.opens()
				if now := keptBy(j.f); now != was {
					t.Fatalf("behind %v: opened it is%s, was%s", j.said, now, was)
				}
				for _, one := range j.totes {
					if path := j.f.Path(one[0]); len(path) > 0 {
						t.Fatalf("behind %v: opened with the path %v", j.said, path)
					}
				}
			}
		}
	}
}

// TestP22_1_ADeadOneAtAnyByte: the same stories, held against the words.
func TestP22_1_ADeadOneAtAnyByte(t *testing.T) {
	for at, s := range stories(t) {
		for units := at % 3; units < 150; units += 3 {
			d := newDouble(t, s.l, s.pause, s.totes...)
			d.does(act(Arm, units))
			for _, a := range s.acts {
				d.do(a)
			}
			if !d.f.Dead() {
				break
			}
			d.settles(5, 0, api.ErrDead)
			d.does(act(Crash))
			d.settle(20)
		}
	}
}

func TestP6_NoCallPanics(t *testing.T) {
	numbers := append(numbers(7), 7, 40, 41, 120, 121, 1000, 1001)
	for _, l := range append(noLayouts(), layouts()...) {
		for _, n := range numbers {
			New(l, n, nil)
			New(l, 3, [][2]int{{n, 0}})
			New(l, 3, [][2]int{{5, n}})
			New(l, 3, [][2]int{{n, n}, {n, n}})
		}
	}
	for at, l := range layouts() {
		d, _ := chanceRun(t, l, 60, at, func(*double, *judge, Act, api.Errno) {})
		for _, dead := range []bool{false, true} {
			if dead {
				d.f.Do(act(Crash))
				d.f.Do(act(Arm, 3))
				d.f.Do(act(Break, 0))
				d.f.Do(act(Up, -1))
			}
			for kind := -1; kind <= 16; kind++ {
				for i, n := range numbers {
					d.f.Do(Act{Kind: kind, N: n, Request: api.Request{ID: n, Station: n, Tote: n}, Data: make([]byte, i)})
					d.f.Do(Act{Kind: n, N: kind})
				}
				if kind != Crash {
					continue
				}
				for _, n := range numbers {
					d.f.Mirror(n)
					d.f.Real(n)
					d.f.Told(n)
					d.f.State(n)
					d.f.Served(n)
					d.f.Path(n)
					d.f.Settle(min(n, 20))
				}
			}
		}
	}
}

// TestP7_TwoFieldsShareNothing: what is done with one changes nothing of the other.
func TestP7_TwoFieldsShareNothing(t *testing.T) {
	for at, s := range stories(t) {
		one, other := s.begin(t), s.begin(t)
		for i, a := range s.acts {
			was := lookAt(other.f)
			one.do(a)
			if i%2 == 0 {
				one.settle(at % 4)
			}
			if i%7 == 0 {
				one.crash()
			}
			if now := lookAt(other.f); now != was {
				t.Fatalf("the other one became%s, was%s", now, was)
			}
			other.do(a)
		}
	}
}

// TestP7_AnswersDependOnNothingElse: the same acts once more have the same answers.
func TestP7_AnswersDependOnNothingElse(t *testing.T) {
	for _, s := range stories(t) {
		one, other := s.begin(t), s.begin(t)
		for _, a := range s.acts {
			lookAt(one.f) // asking changes nothing
			e, again := one.do(a), other.do(a)
			if e != again || lookAt(one.f) != lookAt(other.f) {
				t.Fatalf("%v: %d and %d, %s and %s", one.said, e, again, lookAt(one.f), lookAt(other.f))
			}
		}
		n, e := one.f.Settle(9)
		if m, again := other.f.Settle(9); n != m || e != again || fmt.Sprint(one.f.down, one.f.up) != fmt.Sprint(other.f.down, other.f.up) {
			t.Fatalf("Settle: %d, %d and %d, %d", n, e, m, again)
		}
	}
}
