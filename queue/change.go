package queue

import (
	"firth/api"
	"firth/code"
	"firth/num"
)

// The kinds of changes, as the log's records begin.
const (
	kindIssue = 1 + iota
	kindDid
	kindJump
	kindAck
	kindClear
	kindMembers
	kindNext
	kindEntry
	kindGap
)

// A change is one of the structs below.
type change interface{ kind() int64 }

type issue struct{ rec api.Rec }

type did struct {
	route []int
	rec   api.Rec
}

type jump struct{ vec []int64 }

type ack struct {
	sink int
	seq  int64
}

type noGap struct{ sink int }

type members struct{ list []int }

type next struct{ seq int64 }

type entry struct {
	seq   int64
	sinks []int
	route []int
	rec   api.Rec
}

type gap struct{ sink int }

func (issue) kind() int64   { return kindIssue }
func (did) kind() int64     { return kindDid }
func (jump) kind() int64    { return kindJump }
func (ack) kind() int64     { return kindAck }
func (noGap) kind() int64   { return kindClear }
func (members) kind() int64 { return kindMembers }
func (next) kind() int64    { return kindNext }
func (entry) kind() int64   { return kindEntry }
func (gap) kind() int64     { return kindGap }

func putNums(b []byte, list ...int64) []byte {
	for _, n := range list {
		b = append(b, num.PutNum(n)...)
	}
	return b
}

func putInts(b []byte, list []int) []byte {
	b = putNums(b, int64(len(list)))
	for _, n := range list {
		b = putNums(b, int64(n))
	}
	return b
}

// putRec is asked for right records alone.
func putRec(b []byte, r api.Rec) []byte {
	rec, _ := code.PutRec(r)
	return append(b, rec...)
}

// write tells the bytes of a change that may be.
func write(c change) []byte {
	b := putNums(nil, c.kind())
	switch c := c.(type) {
	case issue:
		return putRec(b, c.rec)
	case did:
		return putRec(putInts(b, c.route), c.rec)
	case jump:
		return putNums(putNums(b, int64(len(c.vec))), c.vec...)
	case ack:
		return putNums(b, int64(c.sink), c.seq)
	case noGap:
		return putNums(b, int64(c.sink))
	case members:
		return putInts(b, c.list)
	case next:
		return putNums(b, c.seq)
	case entry:
		b = putInts(putNums(b, c.seq), c.sinks)
		return putRec(putInts(b, c.route), c.rec)
	case gap:
		return putNums(b, int64(c.sink))
	}
	return nil
}

// A reader takes what stands in bytes; once it isn't ok, what it tells means nothing.
type reader struct {
	b  []byte
	ok bool
}

func (r *reader) num() int64 {
	n, at, e := num.Num(r.b, 0)
	if e != api.OK {
		r.ok = false
		return 0
	}
	r.b = r.b[at:]
	return n
}

func (r *reader) nums() []int64 {
	var list []int64
	for count := r.num(); r.ok && int64(len(list)) < count; {
		list = append(list, r.num())
	}
	return list
}

func (r *reader) ints() []int {
	var list []int
	for _, n := range r.nums() {
		list = append(list, int(n))
	}
	return list
}

// rec takes the record that stands at the end.
func (r *reader) rec() api.Rec {
	rec, e := code.Rec(r.b)
	if e != api.OK {
		r.ok = false
	}
	r.b = nil
	return rec
}

// read tells the change that has just these bytes.
func read(b []byte) (change, bool) {
	r := &reader{b: b, ok: true}
	c := take(r)
	if c == nil || !r.ok || len(r.b) > 0 {
		return nil, false
	}
	return c, true
}

func take(r *reader) change {
	switch r.num() {
	case kindIssue:
		return issue{r.rec()}
	case kindDid:
		route := r.ints()
		return did{route, r.rec()}
	case kindJump:
		return jump{r.nums()}
	case kindAck:
		sink := r.num()
		return ack{int(sink), r.num()}
	case kindClear:
		return noGap{int(r.num())}
	case kindMembers:
		return members{r.ints()}
	case kindNext:
		return next{r.num()}
	case kindEntry:
		seq := r.num()
		sinks := r.ints()
		route := r.ints()
		return entry{seq, sinks, route, r.rec()}
	case kindGap:
		return gap{int(r.num())}
	}
	return nil
}
