package mend_test

import (
	"math/rand"
	"reflect"
	"slices"
	"testing"

	"firth/api"
	. "firth/mend"
	"firth/num"
	"firth/tree"
	"firth/vers"
)

func sp(s int, from, to int64) api.Span { return api.Span{S: s, From: from, To: to} }

func ver(s int, n int64, past ...api.Span) api.Ver {
	return api.Ver{Dot: api.Dot{S: s, N: n}, Past: past, Val: "v"}
}

func rec(key string, l ...api.Ver) api.Rec { return api.Rec{Key: key, Vers: l} }

type rs = []api.Rec

func same(a, b rs) bool {
	return slices.EqualFunc(a, b, func(x, y api.Rec) bool { return x.Key == y.Key && vers.Same(x.Vers, y.Vers) })
}

var wrong = rs{rec("k", ver(1, 1)), rec("")}

func TestOpen(t *testing.T) {
	own := rs{rec("k", ver(1, 1)), rec("l", ver(1, 2)), rec("k", ver(2, 1)), rec("l")}
	tr, _ := tree.New(rec("k", ver(2, 1)))
	if !slices.Equal(Open(own), tr.Kids()) || len(Open(nil)) != 16 || Open(wrong) != nil {
		t.Error("Open")
	}
}

func TestAnswer(t *testing.T) {
	var own rs
	for i := range 10 {
		own = append(own, rec("key"+num.Digits(int64(i)), ver(1, int64(i)+1)))
	}
	tr, _ := tree.New(own...)
	noughts := make([]uint64, 16)
	steps := Answer(own, nil, noughts)
	digits := tree.Differ(tr.Kids(), noughts)
	if len(steps) != len(digits) || len(steps) < 2 {
		t.Fatal(steps)
	}
	for i, d := range digits {
		if !reflect.DeepEqual(steps[i], Step{Path: []int{d}, Hashes: tr.Kids(d)}) {
			t.Error(steps[i])
		}
		var found rs
		for _, s := range Answer(own, []int{d}, nil) {
			if len(s.Path) != 2 || s.Path[0] != d || len(s.Hashes) != 0 || !same(s.Recs, tr.Recs(s.Path...)) || len(s.Recs) == 0 {
				t.Error(s)
			}
			found = append(found, s.Recs...)
		}
		if len(found) != len(tr.Recs(d)) {
			t.Error(found)
		}
	}
	// Where the other one alone has something, the own records there are told, though there are none.
	other := tr.Kids()
	empty := slices.Index(other, 0)
	if empty < 0 {
		t.Fatal("no empty branch")
	}
	other[empty] = 7
	if got := Answer(own, nil, other); len(got) != 1 || !slices.Equal(got[0].Hashes, noughts) || got[0].Path[0] != empty {
		t.Error(got)
	}
	kids := tr.Kids(digits[0])
	at := slices.Index(kids, 0)
	kids[at] = 9
	if got := Answer(own, digits[:1], kids); len(got) != 1 || len(got[0].Recs) != 0 || !slices.Equal(got[0].Path, []int{digits[0], at}) {
		t.Error(got)
	}
	if len(Answer(own, nil, tr.Kids())) != 0 {
		t.Error("nothing differs")
	}
	for _, path := range [][]int{{16}, {-1}, {1, 2}, {1, 2, 3}} {
		if Answer(own, path, noughts) != nil {
			t.Error(path)
		}
	}
	if Answer(wrong, nil, noughts) != nil {
		t.Error("a wrong record")
	}
}

func TestTake(t *testing.T) {
	twin := ver(1, 1)
	twin.Val = "other"
	for i, x := range []struct{ own, theirs, want rs }{
		{nil, rs{rec("k", ver(1, 1))}, rs{rec("k", ver(1, 1))}},
		{rs{rec("k", ver(1, 1))}, rs{rec("k", ver(1, 1))}, nil},
		{rs{rec("k", ver(1, 1))}, nil, nil},
		{rs{rec("k", ver(1, 2, sp(1, 1, 1)))}, rs{rec("k", ver(1, 1))}, nil},
		{rs{rec("k", ver(1, 1))}, rs{rec("k", ver(2, 1)), rec("a", ver(3, 1)), rec("k", ver(4, 1))}, rs{rec("a", ver(3, 1)), rec("k", ver(1, 1), ver(2, 1), ver(4, 1))}},
		{rs{rec("k", ver(1, 1))}, rs{rec("k", twin), rec("l", ver(1, 5))}, rs{rec("l", ver(1, 5))}},
		{rs{rec("k", ver(1, 1)), rec("k", ver(2, 1))}, rs{rec("k", ver(2, 1))}, nil},
		{rs{rec("k", ver(1, 1)), rec("k")}, rs{rec("k", ver(1, 1))}, rs{rec("k", ver(1, 1))}},
		// Each came behind the other one: nothing is left, and there is no record of it.
		{rs{rec("k", ver(1, 1, sp(2, 1, 1)))}, rs{rec("k", ver(2, 1, sp(1, 1, 1)))}, nil},
		{rs{rec("k", ver(1, 1))}, rs{rec("k"), rec("m")}, nil},
	} {
		if got, e := Take(x.own, x.theirs); e != 0 || !same(got, x.want) {
			t.Error(i, got, e)
		}
	}
	if l, e := Take(wrong, nil); l != nil || e != api.ErrArg {
		t.Error(l, e)
	}
	if l, e := Take(nil, wrong); l != nil || e != api.ErrArg {
		t.Error(l, e)
	}
}

func TestGive(t *testing.T) {
	own := rs{rec("k", ver(1, 1)), rec("l", ver(1, 2))}
	p := tree.Place("k")
	if got := Give(own, p, nil); !same(got, rs{rec("k", ver(1, 1))}) {
		t.Error(got)
	}
	if got := Give(own, p, rs{rec("k", ver(1, 1))}); len(got) != 0 {
		t.Error(got)
	}
	if got := Give(own, nil, rs{rec("k", ver(2, 1)), rec("l", ver(1, 5, sp(1, 1, 2)))}); !same(got, rs{rec("k", ver(1, 1))}) {
		t.Error(got)
	}
	if got := Give(own, nil, rs{rec("k", ver(1, 1)), rec("k")}); !same(got, own) {
		t.Error("the last one counts", got)
	}
	for _, path := range [][]int{{16}, {p[0], -1}, {p[0], p[1], 1}} {
		if Give(own, path, nil) != nil {
			t.Error(path)
		}
	}
	if Give(wrong, nil, nil) != nil || Give(own, nil, wrong) != nil {
		t.Error("wrong records")
	}
}

// sync drives two to the same by what they tell each other.
func sync(a, b rs) (rs, rs) {
	for _, s := range Answer(b, nil, Open(a)) {
		for _, leaf := range Answer(a, s.Path, s.Hashes) {
			got, _ := Take(b, leaf.Recs)
			b = append(b, got...)
			got, _ = Take(a, Give(b, leaf.Path, leaf.Recs))
			a = append(a, got...)
		}
	}
	return a, b
}

func TestTwoMeet(t *testing.T) {
	rnd := rand.New(rand.NewSource(8))
	for range 100 {
		var a, b rs
		for i := range rnd.Intn(30) {
			r := rec("key"+num.Digits(int64(rnd.Intn(20))), ver(1+rnd.Intn(3), int64(i)+1))
			if rnd.Intn(2) == 0 {
				got, _ := Take(a, rs{r})
				a = append(a, got...)
			}
			if rnd.Intn(2) == 0 {
				got, _ := Take(b, rs{r})
				b = append(b, got...)
			}
		}
		a, b = sync(a, b)
		if !slices.Equal(Open(a), Open(b)) {
			t.Fatal(a, b)
		}
	}
}

func TestNothingIsShared(t *testing.T) {
	own := rs{rec("k", ver(1, 2, sp(1, 1, 1)))}
	path := make([]int, 1, 9)
	path[0] = tree.Place("k")[0]
	taken, _ := Take(nil, own)
	given := Give(own, nil, nil)
	step := Answer(own, path, nil)[0]
	for _, l := range []rs{taken, given, step.Recs} {
		l[0].Vers[0].Past[0].To = 9
	}
	step.Path[0] = 99
	if own[0].Vers[0].Past[0].To != 1 || path[0] == 99 || path[:2][1] != 0 {
		t.Error("shared")
	}
}
