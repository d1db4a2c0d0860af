package site

import (
	"slices"

	"firth/api"
	"firth/inbox"
	"firth/vect"
)

// fromNode does what a message of a storage node of the site asks for.
func (s *Site) fromNode(m api.Msg) {
	switch m.Kind {
	case api.MGot:
		s.gotRead(m)
	case api.MScanned:
		s.gotScan(m)
	case api.MPutOK:
		s.gotAck(m)
	}
}

func (s *Site) gotRead(m api.Msg) {
	i := slices.IndexFunc(s.readings, func(r *read) bool { return r.id == m.Id && r.key == m.Key })
	if i < 0 || len(m.Recs) > 1 || len(m.Recs) == 1 && m.Recs[0].Key != m.Key {
		return
	}
	r := s.readings[i]
	if r.got == nil {
		return
	}
	var l []api.Ver
	if len(m.Recs) == 1 {
		l = m.Recs[0].Vers
	}
	r.got.Got(m.From.Node, l)
	if !r.got.Done() {
		return
	}
	all := r.got.Vers()
	for _, node := range r.got.Behind() {
		s.toNode(node, api.Msg{Kind: api.MPut, Recs: []api.Rec{{Key: r.key, Vers: all}}})
	}
	s.tell(r.op, r.had, api.Dot{}, all)
	s.readings = slices.Delete(s.readings, i, i+1)
}

func (s *Site) gotScan(m api.Msg) {
	if s.job == nil || s.job.phase != reading {
		return
	}
	for _, a := range s.job.scans {
		if a.id == m.Id && int64(a.part) == m.N && a.got != nil {
			a.got.Got(m.From.Node, m.Recs)
		}
	}
}

func (s *Site) gotAck(m api.Msg) {
	j := s.job
	if j == nil || j.kind == healJob && m.N != s.asked.life {
		// What another life of the node has taken isn't there any more.
		return
	}
	switch j.phase {
	case writing:
		for _, a := range j.writes {
			if a.id == m.Id && a.got != nil {
				a.got.Ack(m.From.Node)
			}
		}
	case blessing:
		if j.kind == healJob && m.Id == j.blessId && m.From.Node == s.asked.node {
			j.blessed = true
		}
	}
}

// fromGate does what a message of a linked site's gate asks for.
func (s *Site) fromGate(m api.Msg) {
	site := m.From.Site
	switch m.Kind {
	case api.MFar:
		s.takeFar(m)
	case api.MFarOK:
		s.queue.Ack(site, m.N)
	case api.MCut:
		s.takeCut(cutFor{site, m.Id})
	case api.MCutOK:
		s.beginPull(m)
	case api.MWant:
		s.tellPath(m)
	case api.MTell:
		s.goOnPull(m)
	case api.MDone:
		if s.keepsCut(site, m.Id) {
			delete(s.cuts, site)
			s.queue.Clear(site)
		}
	}
}

func (s *Site) takeFar(m api.Msg) {
	if !s.isRoute(m.Route) || len(m.Recs) != 1 || len(m.Recs[0].Vers) != 1 {
		return
	}
	dot := m.Recs[0].Vers[0].Dot
	if dot.S > s.conf.Sites {
		return
	}
	far := inbox.Far{From: m.From.Site, Seq: m.N, Rec: m.Recs[0], Route: m.Route}
	if vect.Covers(s.queue.Applied(), dot) {
		s.sendFarOK(far)
		return
	}
	if dot.S == s.self.Site || s.isDoing(dot) {
		return
	}
	s.inbox.Take(far, s.queue.Applied())
}

func (s *Site) isRoute(route []int) bool {
	for i, site := range route {
		if site > s.conf.Sites || slices.Contains(route[:i], site) {
			return false
		}
	}
	return true
}

// isDoing tells whether the far write of that dot is what the gate does.
func (s *Site) isDoing(dot api.Dot) bool {
	return s.job != nil && s.job.kind == farJob && s.job.far.Rec.Vers[0].Dot == dot
}

func (s *Site) keepsCut(site int, id int64) bool {
	cut, there := s.cuts[site]
	return there && cut.Id() == id
}

func (s *Site) takeCut(want cutFor) {
	if s.keepsCut(want.site, want.id) {
		s.sendCut(want.site)
		return
	}
	if s.job != nil && s.job.kind == cutJob && s.job.cut == want {
		return
	}
	s.wanted = slices.DeleteFunc(s.wanted, func(other cutFor) bool { return other.site == want.site })
	s.wanted = append(s.wanted, want)
}

// isOfTaking tells whether a message is an answer to the taking over, whose pull there is.
func (s *Site) isOfTaking(m api.Msg) bool {
	t := s.taking
	return t != nil && t.site == m.From.Site && t.id == m.Id && t.pull != nil
}

func (s *Site) beginPull(m api.Msg) {
	if !s.isOfTaking(m) || len(m.Vec) != s.conf.Sites {
		return
	}
	if s.taking.pull.Begin(m.Vec, m.Hashes) {
		s.wantPaths(s.taking.pull.Wants())
	}
}

func (s *Site) tellPath(m api.Msg) {
	if !s.keepsCut(m.From.Site, m.Id) {
		return
	}
	if hashes, recs, ok := s.cuts[m.From.Site].Want(m.Path); ok {
		s.toGate(m.From.Site, api.Msg{Kind: api.MTell, Id: m.Id, Path: m.Path, Hashes: hashes, Recs: recs})
	}
}

func (s *Site) goOnPull(m api.Msg) {
	if !s.isOfTaking(m) {
		return
	}
	was := len(s.taking.pull.Wants())
	if s.taking.pull.Tell(m.Path, m.Hashes, m.Recs) {
		// One is wanted no more; those that are wanted newly stand behind the others.
		s.wantPaths(s.taking.pull.Wants()[was-1:])
	}
}
