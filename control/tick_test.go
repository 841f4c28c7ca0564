package control

import (
	"slices"
	"testing"

	"stillage/api"
)

// noted holds that the tape's last notes are these, in order: those of a tick, from which on they begin.
func (d *double) noted(from int, want ...api.Note) {
	d.t.Helper()
	if got := d.p.Read()[from:]; !slices.Equal(got, want) {
		d.t.Fatalf("behind %v: the tape has %v, want %v", d.said, got, want)
	}
}

// TestP21_1_ServesWhatIsThere: the first step alone; no edge leads away.
func TestP21_1_ServesWhatIsThere(t *testing.T) {
	d := newDouble(t, store("t0 p0 p1 p2", ""), 3)
	d.does(putOp(5, 1), putOp(6, 2), putOp(7, 3), orderOp(1, 3, 7), orderOp(2, 1, 5), orderOp(3, 2, 6))
	d.ticks()
	d.served(3, 1)
	d.served(1, 2)
	d.served(2, 3)
	d.noted(6, serve(1), serve(2), serve(3))
	d.quiet(2)
	d.does(orderOp(9, 1, 5), orderOp(8, 3, 7))
	d.states(9, 1)
	d.ticks()
	d.served(1, 2, 9)
	d.noted(11, serve(9), serve(8))
}

// TestP21_1_ServesTheFirstAlone: one that is there already waits till all ahead of it are served or cancelled; it has no request till
// then, so it is put away, where there is a way.
func TestP21_1_ServesTheFirstAlone(t *testing.T) {
	d := newDouble(t, store("t0 s0 p0", "s0>t0 t0>p0"), 3)
	d.does(putOp(5, 1), putOp(6, 2), orderOp(1, 2, 5), orderOp(2, 2, 6))
	d.quiet(3)
	d.states(2, 1)
	d.does(cancelOp(1))
	d.ticks()
	d.served(2, 2)

	d = newDouble(t, star(), 3)
	d.does(putOp(5, 1), putOp(6, 4), orderOp(1, 4, 5), orderOp(2, 4, 6))
	d.moves(7, 0, 6)
	d.moves(4, 0, 6)
	d.moves(1, 0, 5)
	d.moves(8, 0, 5)
	d.moves(7, 1, 5)
	d.served(4, 1)
	d.moves(2, 0, 5)
	d.moves(3, 0, 6)
	d.moves(8, 1, 6)
	d.call(tickOp())
	d.served(4, 1, 2)
}

// TestP21_1_ServesWhatRests: not a tote that a device was told to move away, though the mirror has it there still.
func TestP21_1_ServesWhatRests(t *testing.T) {
	d := newDouble(t, star(), 9, put(5, 4), order(1, 4, 5), send(7, 5, 0))
	d.quiet(3)
	d.states(1, 1)
	d.does(refuseOp(7, 0, 5))
	d.ticks(move(7, 1, 5))
	d.served(4, 1)
	d = newDouble(t, star(), 9, put(5, 4), order(1, 4, 5), send(7, 5, 0))
	d.does(doneOp(7, 0, 5))
	d.ticks(move(8, 0, 5))
	d.states(1, 1)
	// With a job of its own, too.
	d = newDouble(t, star(), 9)
	d.does(putOp(5, 4))
	d.ticks(move(7, 0, 5))
	d.does(orderOp(1, 4, 5))
	d.quiet(2)
	d.states(1, 1)
	d.does(refuseOp(7, 0, 5))
	d.ticks(move(7, 1, 5))
	d.states(1, 2)
}

// TestP21_1_OneBehindTheOther: at one station.
func TestP21_1_OneBehindTheOther(t *testing.T) {
	d := newDouble(t, star(), 3)
	d.does(putOp(5, 1), putOp(6, 2), orderOp(1, 4, 5), orderOp(2, 4, 6))
	d.moves(1, 0, 5)
	d.moves(8, 0, 5)
	d.served(4)
	// The first one is served; the station is full for the second one's tote; the first one's is put away.
	d.ticks(move(7, 0, 5))
	d.served(4, 1)
	d.path(5, 7, 2)
	d.path(6)
	d.does(doneOp(7, 0, 5))
	d.ticks(move(2, 0, 5)) // and stands in the way
	d.path(6)
	d.does(doneOp(2, 0, 5))
	d.moves(3, 0, 6)
	d.moves(8, 1, 6)
	d.ticks(move(7, 1, 6))
	d.served(4, 1, 2)
	d.path(6, 7, 4)
}

// TestP21_1_ServedAsAWayGetsFree: all in one tick: a request is served, so its tote's way is free for another one's, and that one is
// in the way of the first tote, which would be put away.
func TestP21_1_ServedAsAWayGetsFree(t *testing.T) {
	d := newDouble(t, star(), 3)
	d.does(putOp(5, 1), putOp(6, 2), orderOp(1, 4, 5), orderOp(2, 5, 6))
	d.moves(1, 0, 5)
	d.path(6)
	d.moves(8, 0, 5)
	d.path(6)
	from := len(d.w.notes)
	d.ticks(move(3, 0, 6))
	d.noted(from, serve(1), send(3, 6, 0))
	d.path(5)
	d.path(6, 3, 10)
	d.does(doneOp(3, 0, 6))
	d.moves(10, 0, 6)
	d.ticks(move(7, 0, 5))
	d.served(5, 2)
	d.path(5, 7, 2)
	d.path(6)
}

// TestP21_1_ARequestBehindAServedOne has its tote at a track; it has a request from the tick on in which the one ahead is served, so it
// stays there; and till then it would be put away.
func TestP21_1_ARequestBehindAServedOne(t *testing.T) {
	l := store("t0 t1 s0 p0 p1", "t1=s0 t1>p0 t0>p0")
	d := newDouble(t, l, 3)
	d.does(putOp(5, 3), putOp(6, 1), orderOp(1, 3, 5), orderOp(2, 3, 6))
	d.quiet(2)
	d.served(3, 1)
	d.at(6, 1)
	d = newDouble(t, l, 3)
	d.does(putOp(5, 3), putOp(6, 1), putOp(7, 0), orderOp(1, 3, 7), orderOp(2, 3, 6))
	d.ticks(move(1, 0, 6))
	d.path(6, 1)
}

// TestP21_1_AJobForEachRequest: of several stations, in the order of the requests, not of the totes or stations.
func TestP21_1_AJobForEachRequest(t *testing.T) {
	d := newDouble(t, star(), 3)
	d.does(putOp(5, 1), putOp(6, 2), putOp(7, 3), orderOp(9, 5, 6), orderOp(1, 4, 5))
	d.ticks(move(3, 0, 6)) // t0 is on its path now
	d.path(6, 3, 10)
	d.path(5)
	two := store("t0 s0 p0 t1 s1 p1", "s1=t1 t1=p1 s0=t0 t0=p0")
	d = newDouble(t, two, 3)
	d.does(putOp(5, 1), putOp(6, 4), orderOp(2, 2, 5), orderOp(1, 5, 6))
	d.ticks(move(1, 0, 6), move(5, 0, 5))
	d.path(5, 5, 7)
	d.path(6, 1, 3)
	d.noted(4, send(5, 5, 0), send(1, 6, 0)) // the totes rise, the devices of the telegrams too
}

// TestP21_1_JustTheFirstOfAStation: the second one's tote stays in its slot, though all is free.
func TestP21_1_JustTheFirstOfAStation(t *testing.T) {
	two := store("t0 t1 s0 s1 p0", "s0>t0 t0>p0 s1>t1 t1>p0")
	d := newDouble(t, two, 3)
	d.does(putOp(5, 2), putOp(6, 3), faultOp(1), orderOp(1, 4, 5), orderOp(2, 4, 6))
	d.quiet(2)
	d.does(cancelOp(1))
	d.ticks(move(3, 0, 6))
}

// TestP21_1_AStationThatIsFull: a tote is there, or is told to come, or it is on another one's path.
func TestP21_1_AStationThatIsFull(t *testing.T) {
	d := newDouble(t, line(), 3)
	d.does(putOp(6, 2), putOp(5, 0), orderOp(1, 2, 5)) // and no slot is free for 6
	d.quiet(3)

	// Two ways lead to the station 8 that have no node but that one.
	d = newDouble(t, ladder(), 50)
	d.does(putOp(5, 6), orderOp(1, 8, 5))
	d.ticks(move(15, 0, 5))
	d.path(5, 15, 1, 3, 19)
	d.does(cancelOp(1), putOp(6, 7), orderOp(2, 8, 6))
	d.quiet(1)
	d.path(6)
	d.does(doneOp(15, 0, 5))
	for _, dev := range []int{1, 3, 19} {
		d.moves(dev, 0, 5)
		d.path(6)
	}
	d.ticks(move(20, 0, 5))
	d.path(6)
	d.does(doneOp(20, 0, 5))
	d.ticks(move(4, 0, 5), move(17, 0, 6))
	d.path(6, 17, 5, 7, 21)

	d = newDouble(t, ladder(), 50, put(5, 2), send(19, 5, 0), put(6, 7), order(2, 8, 6))
	d.quiet(2)
	d.path(6)
	d.does(refuseOp(19, 0, 5))
	d.ticks(move(4, 0, 5), move(17, 0, 6))
	d.path(6, 17, 5, 7, 21)
}

// TestP21_1_AroundWhatIsFull: a tote, a node that one is told to come to, a device that is out of order; of several shortest ways the
// first.
func TestP21_1_AroundWhatIsFull(t *testing.T) {
	wanted := []api.Note{put(5, 6), order(1, 8, 5)}
	for _, way := range []struct {
		notes []api.Note
		path  []int
	}{
		{nil, []int{15, 1, 3, 19}},
		{[]api.Note{mask(4, 1), mask(13, 1), put(6, 2)}, []int{15, 1, 11, 7, 21}},
		{[]api.Note{put(6, 2), send(4, 6, 0)}, []int{15, 9, 5, 7, 21}},
		{[]api.Note{put(6, 4), send(6, 6, 0)}, []int{15, 1, 3, 19}},
		{[]api.Note{put(6, 4), send(6, 6, 0), mask(3, 1)}, nil},
		{[]api.Note{mask(1, 1)}, []int{15, 9, 5, 7, 21}},
		{[]api.Note{mask(1, 1), mask(7, 1)}, []int{15, 9, 5, 12, 3, 19}},
		{[]api.Note{mask(1, 1), mask(7, 1), mask(12, 1)}, nil},
		{[]api.Note{mask(15, 1)}, nil},
		{[]api.Note{mask(16, 1), put(6, 7)}, []int{15, 1, 3, 19}}, // it goes there, not back
	} {
		d := newDouble(t, ladder(), 50, append(way.notes, wanted...)...)
		d.call(tickOp())
		d.path(5, way.path...)
	}
}

// TestP21_1_ARequestWaitsForAWay: behind each tick it is looked for anew, and then it is the first one of the shortest.
func TestP21_1_ARequestWaitsForAWay(t *testing.T) {
	d := newDouble(t, ladder(), 50)
	d.does(putOp(5, 6), faultOp(3), faultOp(7), orderOp(1, 8, 5))
	d.quiet(3)
	d.does(repairOp(7))
	d.ticks(move(15, 0, 5))
	d.path(5, 15, 1, 11, 7, 21)
	d.does(repairOp(3), doneOp(15, 0, 5)) // a path stays as it is
	d.ticks(move(1, 0, 5))
	d.path(5, 1, 11, 7, 21)
}

// TestP21_1_PutAwayFromAnyNodeButASlot: from a track, a station, a gate; into the next slot.
func TestP21_1_PutAwayFromAnyNodeButASlot(t *testing.T) {
	l := store("t0 s0 s1 p0 g0 g1 t1 s2", "t0>s0 p0>t0 g0>t0 t0>s1 g1>t1 t1>s2 s2>t1")
	for node, want := range [][]int{{1}, nil, nil, {2, 1}, {3, 1}, {5, 6}, {6}, nil} {
		d := newDouble(t, l, 5)
		d.does(putOp(5, node))
		d.call(tickOp())
		d.path(5, want...)
	}
}

// TestP21_1_TheNearestSlot: of the slots that aren't full the one with the shortest path, of several the least.
func TestP21_1_TheNearestSlot(t *testing.T) {
	for _, way := range []struct {
		l     api.Layout
		at    int
		notes []api.Note
		path  []int
	}{
		{star(), 4, nil, []int{7, 2}},
		{star(), 4, []api.Note{put(6, 1)}, []int{7, 4}},
		{star(), 4, []api.Note{put(6, 1), put(7, 2)}, []int{7, 6}},
		{star(), 4, []api.Note{put(6, 1), put(7, 2), put(8, 3)}, nil},
		{star(), 4, []api.Note{mask(2, 1)}, []int{7, 4}},
		{star(), 0, []api.Note{mask(2, 1), mask(6, 1)}, []int{4}},
		{star(), 5, []api.Note{mask(9, 1)}, nil},
		{loop(), 8, nil, []int{12, 3, 10}}, // 7 is nearer than 6
		{loop(), 8, []api.Note{put(6, 7)}, []int{12, 3, 4, 5, 6, 8}},
		{loop(), 8, []api.Note{put(6, 7), put(7, 6)}, nil},
		{loop(), 9, nil, []int{14, 6, 8}},
		{loop(), 10, nil, []int{15, 8}},
		{loop(), 10, []api.Note{mask(8, 1)}, []int{15, 1, 2, 3, 10}},
		{ladder(), 8, nil, []int{20, 4, 2, 16}},
		{ladder(), 8, []api.Note{mask(16, 1)}, []int{20, 4, 2, 9, 18}},
		{ladder(), 8, []api.Note{mask(4, 1)}, []int{20, 13, 8, 6, 18}},                // around, so that 7 is nearer now
		{ladder(), 8, []api.Note{put(6, 1), send(2, 6, 0)}, []int{20, 13, 8, 6, 18}},  // 0 and 1 are full
		{ladder(), 8, []api.Note{put(6, 3), send(18, 6, 0)}, []int{20, 4, 2, 16}},     // 7 is told
		{ladder(), 8, []api.Note{put(6, 0), send(16, 6, 0)}, []int{20, 4, 11, 6, 18}}, // 6 is told
		{ladder(), 5, nil, []int{8, 6, 18}},
		{ladder(), 1, nil, []int{2, 16}},
		{ladder(), 4, nil, []int{6, 18}},
		{ladder(), 3, []api.Note{put(6, 7)}, []int{10, 16}},
	} {
		d := newDouble(t, way.l, 50, append(way.notes, put(5, way.at))...)
		d.call(tickOp())
		d.path(5, way.path...)
	}
}

// TestP21_1_TwoForASlot: rising totes; the slot of the first one is full for the second one.
func TestP21_1_TwoForASlot(t *testing.T) {
	l := store("t0 t1 t2 s0 s1", "t0>s0 t1>s0 t2>s0 t1>s1 t2>s1")
	d := newDouble(t, l, 5)
	d.does(putOp(30, 0), putOp(2, 1), putOp(1, 2))
	d.ticks(move(3, 0, 1), move(4, 0, 2))
	d.path(1, 3)
	d.path(2, 4)
	d.path(30)
	d.does(doneOp(3, 0, 1), doneOp(4, 0, 2))
	d.quiet(2)

	d = newDouble(t, star(), 5)
	d.does(putOp(6, 4), putOp(5, 5))
	d.moves(9, 0, 5)
	d.path(6)
	d.moves(2, 0, 5)
	d.moves(7, 0, 6)
	d.moves(4, 0, 6)
	d.quiet(2)
}

// TestP21_1_NotPutAway: a tote in a slot; one with a request that is the first one, though it has no way; one without a free slot, till
// there is one.
func TestP21_1_NotPutAway(t *testing.T) {
	d := newDouble(t, star(), 5)
	d.does(putOp(5, 0), faultOp(8), orderOp(1, 4, 5), putOp(6, 1))
	d.quiet(3)
	d.does(cancelOp(1))
	d.ticks(move(4, 0, 5))
	d = newDouble(t, star(), 5)
	for node := 1; node <= 4; node++ {
		d.does(putOp(node, node))
	}
	d.quiet(3)
	d.does(orderOp(1, 5, 2))
	d.moves(3, 0, 2)
	d.moves(10, 0, 2)
	d.ticks(move(9, 0, 2)) // it is served; the totes rise, so it comes ahead of 4, for which its old slot is free, too
	d.path(2, 9, 4)
	d.path(4)
}

// TestP21_1_PutAwayFirst: a tote with a job gets none for a request, till that is done.
func TestP21_1_PutAwayFirst(t *testing.T) {
	d := newDouble(t, star(), 5)
	d.does(putOp(5, 4))
	d.moves(7, 0, 5)
	d.does(orderOp(1, 5, 5))
	d.path(5, 2)
	d.moves(2, 0, 5)
	d.moves(1, 0, 5)
	d.moves(10, 0, 5)
	d.call(tickOp())
	d.served(5, 1)
}

// TestP21_1_AJobThatIsVoid: the path's first device is out of order; a tick later there is another path, or none.
func TestP21_1_AJobThatIsVoid(t *testing.T) {
	d := newDouble(t, ladder(), 50)
	d.does(putOp(5, 6), orderOp(1, 8, 5))
	d.moves(15, 0, 5)
	d.does(faultOp(1))
	d.path(5, 1, 3, 19)
	d.ticks()
	d.path(5)
	d.ticks(move(9, 0, 5))
	d.path(5, 9, 5, 7, 21)
	d.does(doneOp(9, 0, 5), faultOp(5), faultOp(10))
	d.ticks()
	d.path(5)
	d.quiet(3)
	d.does(repairOp(10), repairOp(1))
	d.ticks(move(10, 0, 5))
	d.path(5, 10, 1, 3, 19)
}

// TestP21_1_AFartherDeviceOutOfOrder: the job goes on till it comes to it.
func TestP21_1_AFartherDeviceOutOfOrder(t *testing.T) {
	d := newDouble(t, ladder(), 50)
	d.does(putOp(5, 6), orderOp(1, 8, 5))
	d.ticks(move(15, 0, 5))
	d.does(faultOp(19), faultOp(3), doneOp(15, 0, 5))
	d.moves(1, 0, 5)
	d.path(5, 3, 19)
	d.does(repairOp(3)) // in order again in time
	d.moves(3, 0, 5)
	d.ticks()
	d.path(5)
	d.moves(13, 0, 5)
	d.path(5, 21)
}

// TestP21_1_OutOfOrderWhenToldAlready: nothing is void; nor is it, if the device was mended ahead of the tick.
func TestP21_1_OutOfOrderWhenToldAlready(t *testing.T) {
	d := newDouble(t, line(), 50)
	d.does(putOp(5, 0), orderOp(1, 2, 5))
	d.ticks(move(1, 0, 5))
	d.does(faultOp(1))
	d.quiet(3)
	d.path(5, 1, 3)
	d.does(doneOp(1, 0, 5), faultOp(3), repairOp(3))
	d.ticks(move(3, 0, 5))
	d.does(faultOp(3), refuseOp(3, 0, 5))
	d.quiet(2) // a job is given around it alone
	d.does(repairOp(3))
	d.ticks(move(3, 1, 5))
}

// TestP21_1_ToldOnce: a tote that is told waits; its job isn't told anew, nor farther.
func TestP21_1_ToldOnce(t *testing.T) {
	d := newDouble(t, line(), 1000)
	d.does(putOp(5, 0), orderOp(1, 2, 5))
	d.ticks(move(1, 0, 5))
	from := len(d.w.notes)
	d.quiet(20)
	d.noted(from)
	d.path(5, 1, 3)
}

// TestP21_1_Seqs: 0 at first; then one more than the last one, though that one was 0, refused, or told by another controller; 0 behind
// 65535; each device has its own.
func TestP21_1_Seqs(t *testing.T) {
	next := map[int]int{0: 1, 1: 2, 254: 255, 255: 256, 32766: 32767, 32767: 32768, 65533: 65534, 65534: 65535, 65535: 0}
	for last, seq := range next {
		d := newDouble(t, line(), 9, put(5, 0), send(1, 5, last), dropped(1))
		d.does(orderOp(1, 2, 5))
		d.ticks(move(1, seq, 5))
		d.does(refuseOp(1, seq, 5), openOp())
		d.moves(1, (seq+1)%65536, 5)
		d.moves(3, 0, 5)
	}
	for last, seq := range next {
		d := newDouble(t, line(), 9, put(5, 2), send(4, 5, last), moved(4, 5))
		d.moves(2, 0, 5)
		d.does(orderOp(1, 2, 5))
		d.moves(1, 0, 5)
		d.moves(3, 0, 5)
		d.moves(4, seq, 5)
	}
	d := newDouble(t, line(), 9, put(5, 0), order(1, 2, 5), send(1, 5, 65533), dropped(1))
	for _, seq := range []int{65534, 65535, 0, 1, 2} {
		d.ticks(move(1, seq, 5))
		d.does(refuseOp(1, seq, 5))
	}
}

// TestP21_1_Pauses: told again just behind the pause's ticks, and so on, with the same Seq, and without a note.
func TestP21_1_Pauses(t *testing.T) {
	for _, pause := range []int{1, 2, 3, 7, 50} {
		d := newDouble(t, line(), pause, put(5, 0), send(1, 5, 65535), dropped(1))
		d.does(orderOp(1, 2, 5))
		d.ticks(move(1, 0, 5))
		from := len(d.w.notes)
		for range 4 {
			d.quiet(pause - 1)
			d.ticks(move(1, 0, 5))
		}
		d.noted(from)
		d.does(doneOp(1, 0, 5))
		d.ticks(move(3, 0, 5)) // it begins anew with this
		d.quiet(pause - 1)
		d.ticks(move(3, 0, 5))
	}
}

func TestP21_1_TheGreatestPause(t *testing.T) {
	c, e := Open(line(), 1000, taped(t, put(5, 0), order(1, 2, 5)))
	if e != api.OK {
		t.Fatalf("Open: %d", e)
	}
	for tick := range 3002 {
		l, e := c.Tick()
		want := tick == 0 || tick%1000 == 0
		if e != api.OK || (len(l) == 1) != want || want && !slices.Equal(l[0], bytesOf(move(1, 0, 5))) {
			t.Fatalf("tick %d: %v, %d", tick, l, e)
		}
	}
}

// TestP21_1_ThePauseBeginsAnew: with each telling; a device that was told anew isn't told again sooner.
func TestP21_1_ThePauseBeginsAnew(t *testing.T) {
	d := newDouble(t, line(), 3)
	d.does(putOp(5, 0), orderOp(1, 2, 5))
	d.ticks(move(1, 0, 5))
	d.quiet(2)
	d.does(refuseOp(1, 0, 5))
	d.ticks(move(1, 1, 5)) // told anew, not again
	d.quiet(1)
	d.does(refuseOp(1, 1, 5))
	d.ticks(move(1, 2, 5))
	d.quiet(2)
	d.ticks(move(1, 2, 5))
	d.quiet(2)
	d.does(faultOp(1))
	d.ticks(move(1, 2, 5)) // out of order or not
	d.quiet(2)
	d.ticks(move(1, 2, 5))
}

// TestP21_1_ThePauseOfWhatWasToldEarlier: opened again, each device's ticks are 0.
func TestP21_1_ThePauseOfWhatWasToldEarlier(t *testing.T) {
	d := newDouble(t, line(), 3, put(5, 0), send(1, 5, 7))
	for range 3 {
		d.quiet(2)
		d.does(openOp())
		d.quiet(2)
		d.ticks(move(1, 7, 5))
		d.quiet(1)
		d.does(openOp())
	}
	d = newDouble(t, line(), 1, put(5, 0), send(1, 5, 7))
	d.ticks(move(1, 7, 5))
	d.ticks(move(1, 7, 5))
}

// TestP21_1_ToldByRisingDevice: told, and told again, in one tick; the totes are the other way round.
func TestP21_1_ToldByRisingDevice(t *testing.T) {
	l := store("t0 t1 t2 t3 s0 s1 s2 s3", "t0>s0 t1>s1 t2>s2 t3>s3")
	d := newDouble(t, l, 2)
	d.does(putOp(9, 1), putOp(7, 3))
	d.ticks(move(2, 0, 9), move(4, 0, 7))
	d.noted(2, send(4, 7, 0), send(2, 9, 0))
	d.quiet(1)
	d.does(putOp(30, 0), putOp(8, 2))
	d.ticks(move(1, 0, 30), move(2, 0, 9), move(3, 0, 8), move(4, 0, 7))
	d.noted(6, send(3, 8, 0), send(1, 30, 0))
	d.does(doneOp(2, 0, 9))
	d.quiet(1)
	d.ticks(move(1, 0, 30), move(3, 0, 8), move(4, 0, 7))
}

// TestP21_1_AllStepsInOneTick: five stores side by side, each for a step.
func TestP21_1_AllStepsInOneTick(t *testing.T) {
	l := store("t0 s0 p0 t1 s1 p1 t2 s2 g2 t3 s3 p3 t4 s4 p4",
		"t0>p0 s1=t1 t1=p1 g2>t2 t2>s2 s3=t3 t3=p3 s4=t4 t4=p4")
	d := newDouble(t, l, 1)
	d.does(putOp(9, 0), putOp(6, 10), putOp(5, 13), orderOp(1, 2, 9), orderOp(3, 11, 6), orderOp(4, 14, 5))
	d.ticks(move(1, 0, 9), move(8, 0, 6), move(12, 0, 5))
	d.does(doneOp(1, 0, 9), doneOp(8, 0, 6), faultOp(10), putOp(8, 4), orderOp(2, 5, 8), putOp(7, 8))
	from := len(d.w.notes)
	d.ticks(move(2, 0, 8), move(6, 0, 7), move(12, 0, 5))
	d.noted(from, serve(1), send(6, 7, 0), send(2, 8, 0))
	d.path(5, 12, 14)
	d.path(6)
	d.path(7, 6, 7)
	d.path(8, 2, 4)
	d.path(9)
	d.served(2, 1)
}

// TestP21_1_RequestsThatNoCallWouldTake: of a tape's: at a node that is none, or is no station, of a tote that isn't there.
func TestP21_1_RequestsThatNoCallWouldTake(t *testing.T) {
	d := newDouble(t, star(), 5, put(5, 4), put(6, 1), put(7, 5), order(1, 39, 5), order(2, 3, 6), order(3, 4, 9), order(4, 4, 7))
	d.ticks(move(1, 0, 6)) // to the slot 3; 5 has a request, and no way; 7 has none yet
	d.path(6, 1, 6)
	d.does(doneOp(1, 0, 6))
	d.moves(6, 0, 6)
	d.ticks(move(9, 0, 7))
	d.served(3, 2)
	d.path(7, 9, 2)
	d.does(cancelOp(3), cancelOp(1), doneOp(9, 0, 7))
	d.moves(2, 0, 7)
	d.ticks(move(7, 0, 5))
	d.known(orderOp(4, 4, 7))
}

// TestP21_1_ATickWithoutAnything: no tote, no edge.
func TestP21_1_ATickWithoutAnything(t *testing.T) {
	for _, l := range layouts() {
		d := newDouble(t, l, 1)
		d.quiet(3)
		d.noted(0)
	}
}
