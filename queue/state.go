package queue

import (
	"slices"

	"firth/api"
	"firth/code"
	"firth/fresh"
	"firth/ring"
	"firth/vect"
	"firth/vers"
)

// A waiting entry is one that some sinks still want.
type waiting struct {
	Entry
	wants map[int]struct{}
}

func (w waiting) wantedBy(sink int) bool {
	_, wants := w.wants[sink]
	return wants
}

// The state is what the log's changes come to.
type state struct {
	Conf
	applied []int64
	isUnder bool
	under   api.Rec // the write under way, if there is one
	entries []waiting
	gaps    map[int]struct{}
	members []int
	next    int64
}

func begin(c Conf) state {
	first := slices.Clone(c.Members)
	c.Links, c.Members = slices.Clone(c.Links), nil
	s := state{Conf: c, gaps: map[int]struct{}{}, members: first, next: 1}
	for range c.Sites {
		s.applied = append(s.applied, c.Base)
	}
	return s
}

func rightConf(c Conf) bool {
	if c.Sites < 1 || c.Sites > api.MaxSites || c.Self < 1 || c.Self > c.Sites {
		return false
	}
	for i, link := range c.Links {
		if link < 1 || link > c.Sites || link == c.Self || i > 0 && c.Links[i-1] >= link {
			return false
		}
	}
	return c.Cap >= 1 && c.Cap <= mostCap && c.Base >= 0 && c.Base <= api.MaxCount && ring.Right(c.Members)
}

func (s *state) isSink(n int) bool {
	return slices.Contains(s.Links, n)
}

func (s *state) areSinks(list []int) bool {
	for _, n := range list {
		if !s.isSink(n) {
			return false
		}
	}
	return true
}

func (s *state) isRoute(list []int) bool {
	for i, n := range list {
		if n < 1 || n > s.Sites || slices.Contains(list[:i], n) {
			return false
		}
	}
	return true
}

// isWrite tells whether a record is a right one of one version, of a site that there is.
func (s *state) isWrite(r api.Rec) bool {
	return code.RightRec(r) && len(r.Vers) == 1 && r.Vers[0].Dot.S <= s.Sites
}

// follows tells whether a write is the next one of its site, and came behind nothing that isn't covered.
func (s *state) follows(v api.Ver) bool {
	d, e := vect.Next(s.applied, v.Dot.S)
	return e == api.OK && d == v.Dot && vect.Holds(s.applied, v.Past)
}

func (s *state) isUnderWay(r api.Rec) bool {
	return s.isUnder && r.Key == s.under.Key && vers.Same(r.Vers, s.under.Vers)
}

// may tells whether a change may be.
func (s *state) may(c change) bool {
	switch c := c.(type) {
	case issue:
		return !s.isUnder && s.isWrite(c.rec) && c.rec.Vers[0].Dot.S == s.Self && s.follows(c.rec.Vers[0])
	case did:
		return s.isRoute(c.route) && s.isWrite(c.rec) && s.follows(c.rec.Vers[0]) && s.next <= api.MaxCount &&
			(c.rec.Vers[0].Dot.S != s.Self || s.isUnderWay(c.rec))
	case jump:
		return vect.Right(c.vec) && len(c.vec) == s.Sites
	case ack:
		return s.isSink(c.sink) && c.seq > 0
	case noGap:
		return s.isSink(c.sink)
	case members:
		return ring.Right(c.list)
	case next:
		return c.seq > 0 && c.seq >= s.next && c.seq <= api.MaxCount+1
	case entry:
		return c.seq > 0 && c.seq <= api.MaxCount && s.isBehindAll(c.seq) &&
			s.areSinks(c.sinks) && s.isRoute(c.route) && s.isWrite(c.rec)
	case gap:
		return s.isSink(c.sink)
	}
	return false
}

func (s *state) isBehindAll(seq int64) bool {
	for _, w := range s.entries {
		if w.Seq >= seq {
			return false
		}
	}
	return true
}

// do makes a change that may be.
func (s *state) do(c change) {
	switch c := c.(type) {
	case issue:
		s.isUnder, s.under = true, fresh.Rec(c.rec)
	case did:
		s.did(c)
	case jump:
		s.applied, _ = vect.Join(s.applied, c.vec)
		if s.isUnder && vect.Covers(s.applied, s.under.Vers[0].Dot) {
			s.isUnder, s.under = false, api.Rec{}
		}
	case ack:
		s.ack(c)
	case noGap:
		delete(s.gaps, c.sink)
	case members:
		s.members = slices.Clone(c.list)
	case next:
		s.next = c.seq
	case entry:
		s.add(c)
	case gap:
		s.gaps[c.sink] = struct{}{}
	}
}

func (s *state) did(c did) {
	d := c.rec.Vers[0].Dot
	s.applied, _ = vect.Bump(s.applied, d)
	if d.S == s.Self {
		s.isUnder, s.under = false, api.Rec{}
	}
	var sinks []int
	for _, link := range s.Links {
		if !slices.Contains(c.route, link) {
			sinks = append(sinks, link)
		}
	}
	s.add(entry{s.next, sinks, c.route, c.rec})
	s.next++
	if len(s.entries) > s.Cap {
		for sink := range s.entries[0].wants {
			s.gaps[sink] = struct{}{}
		}
		s.entries = slices.Delete(s.entries, 0, 1)
	}
}

// add lays an entry behind all others, if somebody wants it.
func (s *state) add(c entry) {
	if len(c.sinks) == 0 {
		return
	}
	w := waiting{Entry{c.seq, fresh.Rec(c.rec), slices.Clone(c.route)}, map[int]struct{}{}}
	for _, sink := range c.sinks {
		w.wants[sink] = struct{}{}
	}
	s.entries = append(s.entries, w)
}

func (s *state) find(seq int64) int {
	return slices.IndexFunc(s.entries, func(w waiting) bool { return w.Seq == seq })
}

func (s *state) ack(c ack) {
	i := s.find(c.seq)
	if i < 0 {
		return
	}
	delete(s.entries[i].wants, c.sink)
	if len(s.entries[i].wants) == 0 {
		s.entries = slices.Delete(s.entries, i, i+1)
	}
}

func rising(set map[int]struct{}) []int {
	list := make([]int, 0, len(set))
	for n := range set {
		list = append(list, n)
	}
	slices.Sort(list)
	return list
}

// changes tells those by which the state comes to be from nothing.
func (s *state) changes() []change {
	list := []change{jump{s.applied}, members{s.members}, next{s.next}}
	for _, w := range s.entries {
		list = append(list, entry{w.Seq, rising(w.wants), w.Route, w.Rec})
	}
	for _, sink := range rising(s.gaps) {
		list = append(list, gap{sink})
	}
	if s.isUnder {
		list = append(list, issue{s.under})
	}
	return list
}
