package code

import (
	"firth/api"
	"firth/num"
)

// A reader takes what stands in bytes, one thing behind the other; it gives up by a panic with a spoilt.
type reader struct {
	b  []byte
	at int
}

type spoilt struct{}

func (r *reader) giveUp() {
	panic(spoilt{})
}

// read tells what one takes from all of the bytes, if that is right.
func read[T any](b []byte, one func(*reader) T, right func(T) bool) (x T, e api.Errno) {
	defer func() {
		switch why := recover().(type) {
		case nil:
		case spoilt:
			var none T
			x, e = none, api.ErrForm
		default:
			panic(why)
		}
	}()
	r := reader{b: b}
	x = one(&r)
	if r.at != len(b) || !right(x) {
		r.giveUp()
	}
	return x, api.OK
}

func (r *reader) num() int64 {
	n, at, e := num.Num(r.b, r.at)
	if e != api.OK {
		r.giveUp()
	}
	r.at = at
	return n
}

func (r *reader) upTo(most int64) int64 {
	n := r.num()
	if n > most {
		r.giveUp()
	}
	return n
}

func (r *reader) whole() int {
	return int(r.upTo(mostWhole))
}

func (r *reader) text(most int) string {
	s, at, e := num.Text(r.b, r.at, most)
	if e != api.OK {
		r.giveUp()
	}
	r.at = at
	return s
}

// list makes no room ahead: what is told to be the list's length may be far too much.
func list[T any](r *reader, one func() T) []T {
	var l []T
	for range r.num() {
		l = append(l, one())
	}
	return l
}

func (r *reader) span() api.Span {
	s := r.whole()
	from := r.upTo(api.MaxCount)
	return api.Span{S: s, From: from, To: from + r.upTo(api.MaxCount-from)}
}

func (r *reader) set() []api.Span {
	return list(r, r.span)
}

func (r *reader) ver() api.Ver {
	var v api.Ver
	v.Dot.S = r.whole()
	v.Dot.N = r.num()
	v.Past = r.set()
	v.Gone = r.upTo(1) == 1
	if !v.Gone {
		v.Val = r.text(api.MaxVal)
	}
	return v
}

func (r *reader) rec() api.Rec {
	key := r.text(api.MaxKey)
	return api.Rec{Key: key, Vers: list(r, r.ver)}
}

func (r *reader) hash() uint64 {
	upper := r.upTo(mostHalf)
	return uint64(upper)<<32 | uint64(r.upTo(mostHalf))
}

func (r *reader) addr() api.Addr {
	site := r.whole()
	return api.Addr{Site: site, Node: r.whole()}
}

func (r *reader) msg() api.Msg {
	var m api.Msg
	m.Kind = r.whole()
	m.From = r.addr()
	m.To = r.addr()
	m.Id = r.num()
	m.N = r.num()
	m.For = r.whole()
	m.Code = api.Errno(r.whole())
	m.Key = r.text(api.MaxKey)
	m.Recs = list(r, r.rec)
	m.Vec = list(r, r.num)
	m.Path = list(r, r.whole)
	m.Hashes = list(r, r.hash)
	m.Route = list(r, r.whole)
	return m
}
