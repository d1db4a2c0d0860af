package code

import (
	"firth/api"
	"firth/num"
)

// A writer gathers the bytes of what is right.
type writer struct {
	b []byte
}

func (w *writer) num(n int64) {
	w.b = append(w.b, num.PutNum(n)...)
}

func (w *writer) whole(n int) {
	w.num(int64(n))
}

func (w *writer) text(s string) {
	w.b = append(w.b, num.PutText(s)...)
}

func putList[T any](w *writer, l []T, one func(T)) {
	w.whole(len(l))
	for _, x := range l {
		one(x)
	}
}

func (w *writer) span(s api.Span) {
	w.whole(s.S)
	w.num(s.From)
	w.num(s.To - s.From)
}

func (w *writer) ver(v api.Ver) {
	w.whole(v.Dot.S)
	w.num(v.Dot.N)
	putList(w, v.Past, w.span)
	if v.Gone {
		w.num(1)
		return
	}
	w.num(0)
	w.text(v.Val)
}

func (w *writer) rec(r api.Rec) {
	w.text(r.Key)
	putList(w, r.Vers, w.ver)
}

func (w *writer) hash(h uint64) {
	w.num(int64(h >> 32))
	w.num(int64(h & mostHalf))
}

func (w *writer) addr(a api.Addr) {
	w.whole(a.Site)
	w.whole(a.Node)
}

func (w *writer) msg(m api.Msg) {
	w.whole(m.Kind)
	w.addr(m.From)
	w.addr(m.To)
	w.num(m.Id)
	w.num(m.N)
	w.whole(m.For)
	w.whole(int(m.Code))
	w.text(m.Key)
	putList(w, m.Recs, w.rec)
	putList(w, m.Vec, w.num)
	putList(w, m.Path, w.whole)
	putList(w, m.Hashes, w.hash)
	putList(w, m.Route, w.whole)
}
