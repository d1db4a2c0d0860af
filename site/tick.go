package site

import (
	"firth/api"
	"firth/ring"
)

const (
	pullTimeouts = 8 // a taking over may last so many times as long as others
	atOnce       = 4 // entries that are sent to a link by a tick
)

// Tick lets time go on.
func (s *Site) Tick() []api.Msg {
	return s.act(func() {
		s.tickAsks()
		s.tickJob()
		s.tickTaking()
		s.sendOn()
	})
}

func (s *Site) tickAsks() {
	var readings []*read
	for _, r := range s.readings {
		if r.age++; r.age > s.conf.Timeout {
			s.fail(r.op, api.ErrTimeout, api.Dot{})
			continue
		}
		readings = append(readings, r)
		if r.got != nil {
			s.askRead(r, r.got.Waits())
		}
	}
	s.readings = readings
	var puts []*put
	for _, p := range s.puts {
		if p.age++; p.age > s.conf.Timeout {
			s.fail(p.op, api.ErrTimeout, api.Dot{})
			continue
		}
		puts = append(puts, p)
	}
	s.puts = puts
	if p := s.client; p != nil {
		if p.age++; p.age > s.conf.Timeout {
			s.fail(p.op, api.ErrTimeout, p.dot)
			s.client = nil
		}
	}
}

func (s *Site) tickJob() {
	j := s.job
	if j == nil {
		return
	}
	if j.age++; j.age <= s.conf.Timeout || !s.giveUp(j.kind) {
		s.askAgain(j)
	}
}

// giveUp gives the job up, if it is of a kind that may be; the asks of clients have times of their own.
func (s *Site) giveUp(kind int) bool {
	switch kind {
	case cutJob:
	case healJob, moveJob:
		s.fail(s.asked.op, api.ErrTimeout, api.Dot{})
		s.asked = nil
	case ownJob:
		s.fail(s.taking.op, api.ErrTimeout, api.Dot{})
		s.taking = nil
	default:
		return false
	}
	s.job = nil
	return true
}

// askAgain asks those again who haven't answered.
func (s *Site) askAgain(j *job) {
	switch j.phase {
	case reading:
		for _, a := range j.scans {
			if a.got != nil && !a.got.Done() {
				s.askScan(a, a.got.Waits())
			}
		}
	case writing:
		for _, a := range j.writes {
			if a.got != nil && !a.got.Done() {
				s.writeAgain(a, j.age == s.conf.HintAfter)
			}
		}
	case blessing:
		s.askBless()
	}
}

func (s *Site) writeAgain(a write, hint bool) {
	rest := ring.Rest(s.queue.Members(), a.part, s.conf.N)
	for i, node := range a.got.Waits() {
		s.askWrite(a, node)
		if hint && i < len(rest) && rest[i] != node {
			s.toNode(rest[i], api.Msg{Kind: api.MPut, For: node, Recs: []api.Rec{a.rec}})
		}
	}
}

func (s *Site) tickTaking() {
	t := s.taking
	if t == nil {
		return
	}
	if t.age++; t.age > pullTimeouts*s.conf.Timeout {
		s.fail(t.op, api.ErrTimeout, api.Dot{})
		s.taking = nil
		if s.job != nil && (s.job.kind == ownJob || s.job.kind == installJob) {
			s.job = nil
		}
		return
	}
	if t.pull == nil {
		return
	}
	if len(t.pull.Vec()) == 0 {
		s.wantCut()
		return
	}
	s.wantPaths(t.pull.Wants())
}

// sendOn sends each link the first entries that it wants.
func (s *Site) sendOn() {
	for _, link := range s.links {
		for _, e := range s.queue.Next(link, atOnce) {
			s.toGate(link, api.Msg{Kind: api.MFar, N: e.Seq, Recs: []api.Rec{e.Rec}, Route: e.Route})
		}
	}
}
