package inbox_test

import (
	"math/rand"
	"slices"
	"testing"

	"firth/api"
	. "firth/inbox"
	"firth/vect"
)

func sp(s int, from, to int64) api.Span { return api.Span{S: s, From: from, To: to} }

func far(s int, n int64, past ...api.Span) Far {
	v := api.Ver{Dot: api.Dot{S: s, N: n}, Past: past, Val: "v"}
	return Far{From: 7, Seq: n, Rec: api.Rec{Key: "k", Vers: []api.Ver{v}}, Route: []int{s}}
}

func dots(list []Far) []api.Dot {
	var out []api.Dot
	for _, f := range list {
		out = append(out, f.Rec.Vers[0].Dot)
	}
	return out
}

func waits(t *testing.T, b *Inbox, want ...api.Dot) {
	t.Helper()
	if got := dots(b.Waits()); !slices.Equal(got, want) {
		t.Error(got)
	}
}

func d(s int, n int64) api.Dot { return api.Dot{S: s, N: n} }

func TestKinds(t *testing.T) {
	if Bad != 0 || Covered != 1 || Kept != 2 || Twice != 3 || Full != 4 {
		t.Error("numbers")
	}
}

func TestExample(t *testing.T) {
	b := New(10)
	zero := []int64{0, 0}
	if b.Take(far(1, 2), zero) != Kept || b.Take(far(1, 1), zero) != Kept {
		t.Error("Kept")
	}
	if f, ok := b.Ready(zero); !ok || f.Rec.Vers[0].Dot != d(1, 1) || f.From != 7 || f.Seq != 1 || !slices.Equal(f.Route, []int{1}) {
		t.Error(f, ok)
	}
	if f, ok := b.Ready(zero); ok || f.From != 0 || f.Rec.Key != "" || f.Route != nil {
		t.Error(f, ok)
	}
	if f, ok := b.Ready([]int64{1, 0}); !ok || f.Rec.Vers[0].Dot != d(1, 2) {
		t.Error(f, ok)
	}
	if b.Take(far(1, 1), []int64{1, 0}) != Covered {
		t.Error("Covered")
	}
	b = New(1)
	if b.Take(far(1, 3), zero) != Kept || b.Take(far(1, 2), zero) != Full || b.Take(far(1, 1), zero) != Kept {
		t.Error("Full")
	}
	waits(t, b, d(1, 3), d(1, 1))
}

func TestTakeInOrder(t *testing.T) {
	b := New(-4)
	applied := []int64{1, 0}
	two := far(1, 2)
	two.Rec.Vers = append(two.Rec.Vers, far(2, 9).Rec.Vers...)
	none := far(1, 2)
	none.Rec.Vers = nil
	name := far(1, 2)
	name.Rec.Key = ""
	gone := far(1, 2)
	gone.Rec.Vers[0].Gone = true
	for i, f := range []Far{two, none, name, gone, far(0, 1), far(1, 0), far(1, 2, sp(1, 2, 2)), {}} {
		if b.Take(f, applied) != Bad {
			t.Error(i)
		}
	}
	if b.Take(far(1, 1), applied) != Covered || b.Take(far(1, 2), applied) != Kept || b.Take(far(1, 2), applied) != Twice || b.Take(far(1, 2), []int64{2, 0}) != Covered {
		t.Error("Take")
	}
	if b.Take(far(2, 1, sp(1, 1, 2)), applied) != Full || b.Take(far(3, 1), applied) != Full || b.Take(far(2, 1, sp(1, 1, 1)), applied) != Kept {
		t.Error("Full")
	}
	if b.Take(far(2, 1), nil) != Twice || b.Take(far(2, 2), nil) != Full {
		t.Error("no vector")
	}
	waits(t, b, d(1, 2), d(2, 1))
}

func TestReadyLooksAtThePast(t *testing.T) {
	b := New(9)
	b.Take(far(2, 1, sp(1, 1, 2)), []int64{0, 0, 0})
	b.Take(far(3, 1, sp(1, 2, 2)), []int64{0, 0, 0})
	for _, v := range [][]int64{{0, 0, 0}, {1, 0, 0}, {2, 1, 1}, {2}, nil, {-1, 0, 0}} {
		if f, ok := b.Ready(v); ok {
			t.Error(v, f)
		}
	}
	if f, ok := b.Ready([]int64{2, 1, 0}); !ok || f.Rec.Vers[0].Dot != d(3, 1) {
		t.Error(f, ok)
	}
	waits(t, b, d(2, 1))
}

func TestClean(t *testing.T) {
	b := New(9)
	zero := []int64{0, 0, 0}
	for _, f := range []Far{far(1, 2), far(2, 1), far(3, 5), far(1, 1)} {
		b.Take(f, zero)
	}
	if len(b.Clean(zero)) != 0 || len(b.Clean(nil)) != 0 {
		t.Error("nothing is covered")
	}
	if got := dots(b.Clean([]int64{2, 0, 4})); !slices.Equal(got, []api.Dot{d(1, 2), d(1, 1)}) {
		t.Error(got)
	}
	waits(t, b, d(2, 1), d(3, 5))
	if len(b.Clean([]int64{2, 1, 5})) != 2 || len(b.Clean([]int64{2, 1, 5})) != 0 {
		t.Error("all")
	}
	waits(t, b)
}

func TestAllComeInOrderAndOnce(t *testing.T) {
	rnd := rand.New(rand.NewSource(12))
	for range 100 {
		var all []Far
		top := make([]int64, 3)
		for range 20 {
			s := 1 + rnd.Intn(3)
			past := vect.Set(top)
			if rnd.Intn(2) == 0 {
				past = nil
			}
			top[s-1]++
			all = append(all, far(s, top[s-1], past...))
		}
		b := New(20)
		applied := make([]int64, 3)
		done := 0
		for _, i := range append(rnd.Perm(20), rnd.Perm(20)...) {
			b.Take(all[i], applied)
			for {
				f, ok := b.Ready(applied)
				if !ok {
					break
				}
				if !vect.Holds(applied, f.Rec.Vers[0].Past) {
					t.Fatal("ahead of what it came behind")
				}
				var e api.Errno
				if applied, e = vect.Bump(applied, f.Rec.Vers[0].Dot); e != 0 {
					t.Fatal(e)
				}
				done++
			}
		}
		if done != 20 || !slices.Equal(applied, top) || len(b.Waits()) != 0 {
			t.Fatal(done, applied)
		}
	}
}

func TestNothingIsKept(t *testing.T) {
	b := New(9)
	f := far(1, 2, sp(1, 1, 1))
	b.Take(f, []int64{0})
	f.Rec.Vers[0].Past[0].To, f.Route[0] = 9, 9
	w := b.Waits()[0]
	w.Rec.Vers[0].Past[0].To, w.Route[0] = 8, 8
	got, _ := b.Ready([]int64{1})
	if got.Rec.Vers[0].Past[0].To != 1 || got.Route[0] != 1 {
		t.Error(got)
	}
}
