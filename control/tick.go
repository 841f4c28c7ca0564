package control

import (
	"slices"

	"stillage/api"
	"stillage/route"
	"stillage/tele"
)

// Tick: a tick goes by; telegrams.
func (c *Control) Tick() ([][]byte, api.Errno) {
	if c.dead {
		return nil, api.ErrDead
	}
	if e := c.serve(); e != api.OK {
		return nil, e
	}
	c.fetch()
	c.putAway()
	told, e := c.tell()
	if e != api.OK {
		return nil, e
	}
	return c.moves(c.due(told)), api.OK
}

// serve notes all requests as served that can be: the first one of a station, whose tote rests there.
func (c *Control) serve() api.Errno {
again:
	for {
		for _, r := range c.book.Open() {
			if !c.isFirst(r) || !c.rests(r.Tote) || c.mirror.Where(r.Tote) != r.Station {
				continue
			}
			if e := c.note(api.Note{Kind: api.JServed, A: r.ID}); e != api.OK {
				return e
			}
			continue again // another one is the first one of its station now: one that was passed over, perhaps
		}
		return api.OK
	}
}

// fetch gives jobs to totes that are wanted at a station now.
func (c *Control) fetch() {
	for _, r := range c.book.Open() {
		if c.isFirst(r) && c.rests(r.Tote) {
			c.jobs[r.Tote] = c.pathTo(r.Tote, r.Station, c.fullFor(r.Tote))
		}
	}
}

// putAway gives jobs to totes that stand about and aren't wanted: each to the slot that is nearest.
func (c *Control) putAway() {
totes:
	for tote := 1; tote <= api.MaxTote; tote++ {
		if !c.rests(tote) || c.hasRequest(tote) {
			continue totes
		}
		var nearest []int
		full := c.fullFor(tote)
		for slot, node := range c.layout.Nodes {
			if node.Kind != api.NSlot {
				continue
			}
			if slot == c.mirror.Where(tote) {
				continue totes // it is put away already
			}
			path := c.pathTo(tote, slot, full)
			if len(path) > 0 && (len(nearest) == 0 || len(path) < len(nearest)) {
				nearest = path
			}
		}
		c.jobs[tote] = nearest
	}
}

// tell tells the first devices of the jobs' paths to move the totes, and answers which were told.
func (c *Control) tell() ([]int, api.Errno) {
	var told []int
	for tote, path := range c.jobs {
		if len(path) == 0 || c.isMoving(tote) {
			continue
		}
		dev := path[0]
		if c.isDown(dev) {
			c.jobs[tote] = nil
			continue
		}
		if e := c.note(api.Note{Kind: api.JSend, A: dev, B: tote, C: c.nextSeq(dev)}); e != api.OK {
			return nil, e
		}
		c.ticks[dev] = 0
		told = append(told, dev)
	}
	return told, api.OK
}

// due counts a tick for each device that was told something earlier, and answers which are told now, or told again.
func (c *Control) due(toldNow []int) []int {
	var due []int
	for dev := 1; dev <= len(c.layout.Edges); dev++ {
		if _, _, told := c.mirror.Told(dev); !told {
			continue
		}
		if !slices.Contains(toldNow, dev) {
			c.ticks[dev]++
			if c.ticks[dev] < c.pause {
				continue
			}
			c.ticks[dev] = 0
		}
		due = append(due, dev)
	}
	return due
}

// moves are the telegrams that have devices do what they were told.
func (c *Control) moves(devices []int) [][]byte {
	var all [][]byte
	for _, dev := range devices {
		tote, seq, _ := c.mirror.Told(dev)
		b, _ := tele.Encode(api.Tele{Kind: api.TMove, Dev: uint16(dev), Seq: uint16(seq), A: uint16(tote)})
		all = append(all, b)
	}
	return all
}

// pathTo is a path for a tote that rests, around all that is full for it; none, if there is none, or its end is full, too.
func (c *Control) pathTo(tote, node int, full []int) []int {
	if slices.Contains(full, node) {
		return nil
	}
	path, _ := route.Around(c.layout, c.mirror.Down(), c.mirror.Where(tote), node, full)
	return path
}

// fullFor tells which nodes are full for a tote.
func (c *Control) fullFor(tote int) []int {
	var full []int
	for node := range c.layout.Nodes {
		if c.mirror.Taken(node) && c.mirror.Where(tote) != node || c.isOnPath(node, tote) {
			full = append(full, node)
		}
	}
	return full
}

// rests tells whether a tote is there, and nothing goes on with it.
func (c *Control) rests(tote int) bool {
	return c.mirror.Where(tote) != nowhere && len(c.jobs[tote]) == 0 && !c.isMoving(tote)
}

// isMoving tells whether a device was told to move a tote.
func (c *Control) isMoving(tote int) bool {
	for dev := 1; dev <= len(c.layout.Edges); dev++ {
		if of, _, told := c.mirror.Told(dev); told && of == tote {
			return true
		}
	}
	return false
}

// hasRequest tells whether a tote is wanted at a station now.
func (c *Control) hasRequest(tote int) bool {
	r, wanted := c.book.Wanted(tote)
	return wanted && c.isFirst(r)
}

// isFirst tells whether an open request is the first one of its station.
func (c *Control) isFirst(r api.Request) bool {
	first, _ := c.book.First(r.Station)
	return first == r
}

// nextSeq is the Seq that a device is told next.
func (c *Control) nextSeq(dev int) int {
	last, ever := c.mirror.Last(dev)
	if !ever {
		return 0
	}
	return int(uint16(last) + 1)
}
