package site

import (
	"slices"

	"firth/api"
	"firth/fresh"
	"firth/gather"
	"firth/pull"
	"firth/quorum"
	"firth/ring"
	"firth/seal"
	"firth/vect"
)

// A read is a reading under way.
type read struct {
	op  int64
	had []api.Span // what its token has
	age int
	key string
	id  int64
	got *quorum.Read
}

// A put waits to be issued, and then for its write.
type put struct {
	op   int64
	had  []api.Span
	age  int
	key  string
	val  string
	gone bool
	dot  api.Dot // once it is issued
}

// A change of who keeps what: a healing of a node, or a move to members.
type change struct {
	op      int64
	node    int // 0 of a move
	life    int64
	members []int
}

// A taking over of all that another site has.
type taking struct {
	op   int64
	site int
	id   int64
	age  int
	pull *pull.Pull // none, till one's own records are known
}

// admit tells what a client's token has, if its ask may begin.
func (s *Site) admit(token []byte, key, val string) ([]api.Span, api.Errno) {
	if len(val) > api.MaxVal || len(key) < 1 || len(key) > api.MaxKey {
		return nil, api.ErrArg
	}
	had, e := seal.Open(s.conf.Secret, s.conf.Group, token)
	if e != api.OK {
		return nil, e
	}
	if !vect.Holds(s.queue.Applied(), had) {
		return nil, api.ErrNotYet
	}
	under := len(s.readings) + len(s.puts)
	if s.client != nil {
		under++
	}
	if under >= s.conf.Wait {
		return nil, api.ErrQueue
	}
	return had, api.OK
}

// Get begins a reading of a key.
func (s *Site) Get(op int64, token []byte, key string) ([]api.Msg, api.Errno) {
	had, e := s.admit(token, key, "")
	if e != api.OK {
		return nil, e
	}
	return s.act(func() {
		r := &read{op: op, had: had, key: key}
		s.readings = append(s.readings, r)
		s.beginRead(r)
	}), api.OK
}

// beginRead asks those who keep the key now.
func (s *Site) beginRead(r *read) {
	r.id = s.number()
	list := s.keepers(ring.Part(r.key))
	r.got, _ = quorum.NewRead(list, s.conf.R)
	s.askRead(r, list)
}

func (s *Site) askRead(r *read, list []int) {
	for _, node := range list {
		s.toNode(node, api.Msg{Kind: api.MGet, Id: r.id, Key: r.key})
	}
}

// Put lets a write of a key wait to be issued.
func (s *Site) Put(op int64, token []byte, key, val string, gone bool) ([]api.Msg, api.Errno) {
	if gone {
		val = ""
	}
	had, e := s.admit(token, key, val)
	if e != api.OK {
		return nil, e
	}
	return s.act(func() {
		s.puts = append(s.puts, &put{op: op, had: had, key: key, val: val, gone: gone})
	}), api.OK
}

// Full begins a taking over of all that another site has.
func (s *Site) Full(op int64, from int) ([]api.Msg, api.Errno) {
	if !s.isLinked(from) {
		return nil, api.ErrArg
	}
	if s.taking != nil {
		return nil, api.ErrBusy
	}
	return s.act(func() {
		s.taking = &taking{op: op, site: from, id: s.number()}
	}), api.OK
}

// Move asks for other members.
func (s *Site) Move(op int64, members []int) ([]api.Msg, api.Errno) {
	if !rightMembers(s.conf, members) {
		return nil, api.ErrMembers
	}
	if s.asked != nil {
		return nil, api.ErrBusy
	}
	return s.act(func() {
		s.asked = &change{op: op, members: slices.Clone(members)}
	}), api.OK
}

// Heal asks that a node be given all that it is to keep.
func (s *Site) Heal(op int64, node int, life int64) ([]api.Msg, api.Errno) {
	if node < 1 || node > s.conf.Nodes || life < 0 {
		return nil, api.ErrArg
	}
	if s.asked != nil {
		return nil, api.ErrBusy
	}
	return s.act(func() {
		s.asked = &change{op: op, node: node, life: life}
	}), api.OK
}

// fail ends an ask by an error.
func (s *Site) fail(op int64, e api.Errno, dot api.Dot) {
	s.outcomes = append(s.outcomes, Outcome{Op: op, Err: e, Dot: dot})
}

// tell ends a client's ask by what came of it, with a token of all that the client knows of then.
func (s *Site) tell(op int64, had []api.Span, dot api.Dot, l []api.Ver) {
	lists := [][]api.Span{had}
	if dot.N > 0 {
		lists = append(lists, gather.Dot(dot))
	}
	for _, v := range l {
		lists = append(lists, gather.Dot(v.Dot), v.Past)
	}
	knows := gather.Spans(lists...)
	if len(knows) > api.MaxSpans {
		s.fail(op, api.ErrSpans, dot)
		return
	}
	token, _ := seal.Seal(s.conf.Secret, s.conf.Group, knows)
	s.outcomes = append(s.outcomes, Outcome{Op: op, Dot: dot, Vers: fresh.Vers(l), Token: token})
}
