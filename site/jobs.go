package site

import (
	"slices"

	"firth/api"
	"firth/inbox"
	"firth/pull"
	"firth/quorum"
	"firth/ring"
)

// The kinds of jobs.
const (
	putJob = 1 + iota
	cutJob
	healJob
	moveJob
	ownJob
	farJob
	installJob
)

// The phases of a job.
const (
	reading = 1 + iota
	writing
	blessing
	ending
)

// A cutFor is a cut that another site wants.
type cutFor struct {
	site int
	id   int64
}

// A scan is a reading of a partition. It has no asking where the nodes that there are can't be enough.
type scan struct {
	id   int64
	part int
	got  *quorum.Scan
}

// A write is a writing of a record; likewise.
type write struct {
	id   int64
	part int
	rec  api.Rec
	got  *quorum.Write
}

// A job is what the gate does, one at a time.
type job struct {
	kind    int
	phase   int
	age     int
	scans   []scan
	writes  []write
	rec     api.Rec     // of a put
	far     inbox.Far   // of a far
	cut     cutFor      // of a cut
	moves   []ring.Move // of a move
	blessId int64
	blessed bool
}

// asking is what all askings have in common.
type asking interface {
	Done() bool
	Waits() []int
}

// choose goes on with the job, and with the next ones, as long as each is over at once.
func (s *Site) choose() {
	for s.job != nil || s.pick() {
		if s.job != nil && !s.goOn() {
			return
		}
	}
}

// pick begins the first thing that there is to do; false, if there is none.
func (s *Site) pick() bool {
	if r, under := s.queue.Under(); under {
		s.begin(&job{kind: putJob, rec: r}, nil)
		return true
	}
	if len(s.wanted) > 0 {
		j := &job{kind: cutJob, cut: s.wanted[0]}
		s.wanted = slices.Delete(s.wanted, 0, 1)
		s.begin(j, allParts())
		return true
	}
	if s.asked != nil {
		s.beginChange()
		return true
	}
	if s.taking != nil && s.taking.pull == nil {
		s.begin(&job{kind: ownJob}, allParts())
		return true
	}
	if len(s.puts) > 0 {
		s.issue()
		return true
	}
	if f, ok := s.inbox.Ready(s.queue.Applied()); ok {
		s.begin(&job{kind: farJob, far: f}, nil)
		return true
	}
	if s.taking != nil && s.taking.pull.Done() {
		s.begin(&job{kind: installJob}, nil)
		return true
	}
	return false
}

func allParts() []int {
	parts := make([]int, api.Parts)
	for i := range parts {
		parts[i] = i
	}
	return parts
}

func (s *Site) beginChange() {
	if s.asked.node > 0 {
		s.begin(&job{kind: healJob}, ring.Owns(s.queue.Members(), s.asked.node, s.conf.N))
		return
	}
	j := &job{kind: moveJob, moves: ring.Moves(s.queue.Members(), s.asked.members, s.conf.N)}
	var parts []int
	for _, m := range j.moves {
		parts = append(parts, m.Part)
	}
	s.begin(j, parts)
}

// issue gives the first put that waits its dot.
func (s *Site) issue() {
	p := s.puts[0]
	s.puts = slices.Delete(s.puts, 0, 1)
	v, e := s.queue.Issue(p.key, p.had, p.gone, p.val)
	if e != api.OK {
		s.fail(p.op, e, api.Dot{})
		return
	}
	p.dot = v.Dot
	s.client = p
}

// begin begins a job, which reads these partitions first.
func (s *Site) begin(j *job, parts []int) {
	s.job = j
	j.phase = reading
	for _, part := range parts {
		list := s.keepers(part)
		ask := scan{id: s.number(), part: part}
		ask.got, _ = quorum.NewScan(list, s.conf.R)
		j.scans = append(j.scans, ask)
		s.askScan(ask, list)
	}
}

func (s *Site) askScan(a scan, list []int) {
	for _, node := range list {
		s.toNode(node, api.Msg{Kind: api.MScan, Id: a.id, N: int64(a.part)})
	}
}

func (s *Site) askWrite(a write, node int) {
	s.toNode(node, api.Msg{Kind: api.MPut, Id: a.id, Recs: []api.Rec{a.rec}})
}

func (s *Site) askBless() {
	s.toNode(s.asked.node, api.Msg{Kind: api.MBless, Id: s.job.blessId, N: s.asked.life})
}

// isOver tells whether the job's phase is over.
func (j *job) isOver() bool {
	switch j.phase {
	case reading:
		for _, a := range j.scans {
			if a.got == nil || !a.got.Done() {
				return false
			}
		}
		return true
	case writing:
		for _, a := range j.writes {
			if a.got == nil || !a.got.Done() {
				return false
			}
		}
		return true
	case blessing:
		return j.kind != healJob || j.blessed
	}
	return false
}

// goOn begins the phases that may begin; true, if the job is over.
func (s *Site) goOn() bool {
	for j := s.job; j.isOver(); {
		j.phase++
		switch {
		case j.phase == writing:
			s.beginWrites(j)
		case j.phase == blessing && j.kind == healJob:
			j.blessId = s.number()
			s.askBless()
		}
	}
	if s.job.phase != ending || !s.end(s.job) {
		return false
	}
	s.job = nil
	return true
}

// write asks nodes to take a record.
func (s *Site) write(part int, r api.Rec, list []int, need int) {
	ask := write{id: s.number(), part: part, rec: r}
	ask.got, _ = quorum.NewWrite(list, need)
	s.job.writes = append(s.job.writes, ask)
	for _, node := range list {
		s.askWrite(ask, node)
	}
}

// keep asks those who keep a record's key to take it.
func (s *Site) keep(r api.Rec) {
	part := ring.Part(r.Key)
	s.write(part, r, s.keepers(part), s.conf.W)
}

func (s *Site) beginWrites(j *job) {
	switch j.kind {
	case putJob:
		s.keep(j.rec)
	case farJob:
		s.keep(j.far.Rec)
	case installJob:
		staged := s.taking.pull.Staged()
		for _, part := range allParts() {
			for _, r := range staged {
				if ring.Part(r.Key) == part {
					s.keep(r)
				}
			}
		}
	case healJob, moveJob, ownJob:
		for i, a := range j.scans {
			for _, r := range a.got.Recs() {
				s.writeRead(i, a.part, r)
			}
		}
	}
}

// writeRead writes a record that was read from the i-th of the job's partitions.
func (s *Site) writeRead(i, part int, r api.Rec) {
	switch s.job.kind {
	case healJob:
		s.write(part, r, []int{s.asked.node}, 1)
	case moveJob:
		s.write(part, r, s.job.moves[i].New, s.conf.W)
	case ownJob:
		s.write(part, r, s.keepers(part), s.conf.W)
	}
}

// read tells the records that the job has read.
func (j *job) read() []api.Rec {
	var list []api.Rec
	for _, a := range j.scans {
		list = append(list, a.got.Recs()...)
	}
	return list
}

// end does what is done at a job's end; false, if the queue refuses it.
func (s *Site) end(j *job) bool {
	switch j.kind {
	case putJob:
		return s.endPut(j)
	case cutJob:
		cut, _ := pull.NewCut(j.cut.id, s.queue.Applied(), j.read())
		s.cuts[j.cut.site] = cut
		s.sendCut(j.cut.site)
	case healJob:
		s.outcomes = append(s.outcomes, Outcome{Op: s.asked.op})
		s.asked = nil
	case moveJob:
		return s.endMove()
	case ownJob:
		s.taking.pull, _ = pull.NewPull(s.taking.id, j.read())
		s.wantCut()
	case farJob:
		return s.endFar(j.far)
	case installJob:
		return s.endInstall()
	}
	return true
}

func (s *Site) endPut(j *job) bool {
	if s.queue.Did(j.rec, []int{s.self.Site}) != api.OK {
		return false
	}
	s.clean()
	if p := s.client; p != nil {
		s.client = nil
		s.tell(p.op, p.had, p.dot, nil)
	}
	return true
}

func (s *Site) endMove() bool {
	if s.queue.SetMembers(s.asked.members) != api.OK {
		return false
	}
	for _, r := range s.readings {
		s.beginRead(r)
	}
	s.outcomes = append(s.outcomes, Outcome{Op: s.asked.op})
	s.asked = nil
	return true
}

func (s *Site) endFar(f inbox.Far) bool {
	route := slices.Clone(f.Route)
	if !slices.Contains(route, s.self.Site) {
		route = append(route, s.self.Site)
	}
	if s.queue.Did(f.Rec, route) != api.OK {
		return false
	}
	s.sendFarOK(f)
	s.clean()
	return true
}

func (s *Site) endInstall() bool {
	t := s.taking
	if s.queue.Jump(t.pull.Vec()) != api.OK {
		return false
	}
	s.toGate(t.site, api.Msg{Kind: api.MDone, Id: t.id})
	s.outcomes = append(s.outcomes, Outcome{Op: t.op})
	s.taking = nil
	s.clean()
	return true
}

// clean takes those out of the inbox that are covered by now.
func (s *Site) clean() {
	for _, f := range s.inbox.Clean(s.queue.Applied()) {
		s.sendFarOK(f)
	}
}

func (s *Site) sendFarOK(f inbox.Far) {
	s.toGate(f.From, api.Msg{Kind: api.MFarOK, N: f.Seq})
}

func (s *Site) sendCut(site int) {
	cut := s.cuts[site]
	s.toGate(site, api.Msg{Kind: api.MCutOK, Id: cut.Id(), Vec: cut.Vec(), Hashes: cut.Open()})
}

func (s *Site) wantCut() {
	s.toGate(s.taking.site, api.Msg{Kind: api.MCut, Id: s.taking.id})
}

func (s *Site) wantPaths(paths [][]int) {
	for _, path := range paths {
		s.toGate(s.taking.site, api.Msg{Kind: api.MWant, Id: s.taking.id, Path: path})
	}
}
