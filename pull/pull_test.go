package pull_test

import (
	"math/rand"
	"slices"
	"testing"

	"firth/api"
	"firth/num"
	. "firth/pull"
	"firth/tree"
	"firth/vers"
)

func ver(s int, n int64, past ...api.Span) api.Ver {
	return api.Ver{Dot: api.Dot{S: s, N: n}, Past: past, Val: "v"}
}

func rec(key string, l ...api.Ver) api.Rec { return api.Rec{Key: key, Vers: l} }

type rs = []api.Rec

func same(a, b rs) bool {
	return slices.EqualFunc(a, b, func(x, y api.Rec) bool { return x.Key == y.Key && vers.Same(x.Vers, y.Vers) })
}

func cut(t *testing.T, list ...api.Rec) *Cut {
	t.Helper()
	c, e := NewCut(5, []int64{1, 2}, list)
	if e != 0 {
		t.Fatal(e)
	}
	return c
}

func pull(t *testing.T, own ...api.Rec) *Pull {
	t.Helper()
	p, e := NewPull(5, own)
	if e != 0 {
		t.Fatal(e)
	}
	return p
}

func TestCut(t *testing.T) {
	k := rec("k", ver(1, 1))
	c := cut(t, rec("l", ver(1, 2)), k, rec("l"))
	tr, _ := tree.New(k)
	p := tree.Place("k")
	if c.Id() != 5 || !slices.Equal(c.Vec(), []int64{1, 2}) || !slices.Equal(c.Open(), tr.Kids()) {
		t.Error("cut")
	}
	if h, l, ok := c.Want(p[:1]); !ok || l != nil || !slices.Equal(h, tr.Kids(p[0])) {
		t.Error(h, l, ok)
	}
	if h, l, ok := c.Want(p); !ok || h != nil || !same(l, rs{k}) {
		t.Error(h, l, ok)
	}
	if h, l, ok := c.Want([]int{(p[0] + 1) % 16, 0}); !ok || h != nil || len(l) != 0 {
		t.Error(h, l, ok)
	}
	for _, path := range [][]int{nil, {16}, {-1}, {1, 16}, {-1, 1}, {1, 2, 3}} {
		if h, l, ok := c.Want(path); ok || h != nil || l != nil {
			t.Error(path)
		}
	}
	for _, vec := range [][]int64{nil, {-1}, make([]int64, 17)} {
		if c, e := NewCut(5, vec, nil); c != nil || e != api.ErrArg {
			t.Error(vec, e)
		}
	}
	if c, e := NewCut(5, []int64{1}, rs{k, rec("")}); c != nil || e != api.ErrArg {
		t.Error(e)
	}
	if p, e := NewPull(5, rs{k, rec("")}); p != nil || e != api.ErrArg {
		t.Error(e)
	}
}

func TestExample(t *testing.T) {
	k := rec("k", ver(1, 1))
	c, p := cut(t, k), pull(t)
	if p.Id() != 5 || p.Done() || p.Vec() != nil || len(p.Wants()) != 0 {
		t.Error("not begun")
	}
	if p.Begin(nil, nil) || p.Begin([]int64{-1}, nil) || !p.Begin(c.Vec(), c.Open()) || p.Begin(c.Vec(), c.Open()) {
		t.Error("Begin")
	}
	place := tree.Place("k")
	if w := p.Wants(); len(w) != 1 || !slices.Equal(w[0], place[:1]) || p.Done() || !slices.Equal(p.Vec(), []int64{1, 2}) {
		t.Error(w)
	}
	h, l, _ := c.Want(place[:1])
	if p.Tell(place, nil, nil) || !p.Tell(place[:1], h, l) || p.Tell(place[:1], h, l) {
		t.Error("Tell")
	}
	if w := p.Wants(); len(w) != 1 || !slices.Equal(w[0], place) {
		t.Error(w)
	}
	_, l, _ = c.Want(place)
	if !p.Tell(place, nil, l) || !p.Done() || !same(p.Staged(), rs{k}) || p.Tell(place, nil, l) {
		t.Error(p.Staged())
	}
	same := pull(t, k)
	if !same.Begin(c.Vec(), c.Open()) || !same.Done() || len(same.Staged()) != 0 {
		t.Error("nothing is wanted")
	}
}

// alike tells another key at k's place.
func alike(k string) string {
	for i := int64(0); ; i++ {
		if key := "x" + num.Digits(i); slices.Equal(tree.Place(key), tree.Place(k)) {
			return key
		}
	}
}

func elsewhere(k string) string {
	for i := int64(0); ; i++ {
		if key := "x" + num.Digits(i); tree.Place(key)[0] == tree.Place(k)[0] && tree.Place(key)[1] != tree.Place(k)[1] {
			return key
		}
	}
}

func TestTell(t *testing.T) {
	place, x, y := tree.Place("k"), alike("k"), elsewhere("k")
	c, p := cut(t, rec("k", ver(1, 1))), pull(t, rec(x, ver(2, 2)))
	p.Begin(c.Vec(), c.Open())
	for _, path := range [][]int{nil, {16}, {-1}, {(place[0] + 1) % 16}, {place[0], place[1], 0}, {place[0], 0, 0, 0}} {
		if p.Tell(path, nil, nil) {
			t.Error(path)
		}
	}
	h, _, _ := c.Want(place[:1])
	p.Tell(place[:1], h, rs{rec("")})
	for i, list := range []rs{{rec(y, ver(1, 1))}, {rec("k", ver(1, 1)), rec("")}, {rec("k", api.Ver{})}} {
		if p.Tell(place, nil, list) || p.Done() || len(p.Staged()) != 0 {
			t.Error(i)
		}
	}
	if !p.Tell(place, nil, rs{rec("k", ver(1, 1)), rec(x, ver(1, 9)), rec("k", ver(1, 2)), rec(x)}) || !same(p.Staged(), rs{rec("k", ver(1, 2))}) {
		t.Error(p.Staged())
	}
}

func TestOrderOfWants(t *testing.T) {
	p := pull(t)
	h := make([]uint64, 16)
	h[3], h[9] = 1, 1
	p.Begin([]int64{0}, h)
	two := make([]uint64, 16)
	two[0], two[15] = 5, 5
	p.Tell([]int{3}, two, nil)
	want := [][]int{{9}, {3, 0}, {3, 15}}
	if got := p.Wants(); !slices.EqualFunc(got, want, slices.Equal[[]int]) {
		t.Error(got)
	}
	if !p.Tell([]int{3, 0}, nil, nil) || !p.Tell([]int{9}, nil, nil) || !p.Tell([]int{3, 15}, nil, nil) || !p.Done() {
		t.Error(p.Wants())
	}
}

func TestWhateverOrder(t *testing.T) {
	rnd := rand.New(rand.NewSource(14))
	for range 40 {
		var theirs, own rs
		for i := range 60 {
			r := rec("key"+num.Digits(int64(i)), ver(1, int64(i)+1))
			if rnd.Intn(4) > 0 {
				theirs = append(theirs, r)
			}
			if rnd.Intn(4) > 0 {
				own = append(own, r)
			}
		}
		c := cut(t, theirs...)
		var first rs
		for try := range 3 {
			p := pull(t, own...)
			p.Begin(c.Vec(), c.Open())
			for !p.Done() {
				w := p.Wants()
				path := w[rnd.Intn(len(w))]
				h, l, _ := c.Want(path)
				if !p.Tell(path, h, l) {
					t.Fatal(path)
				}
			}
			if try == 0 {
				first = p.Staged()
			}
			if !same(p.Staged(), first) {
				t.Fatal("not the same")
			}
		}
		all := map[string]int{}
		for _, r := range append(slices.Clone(own), first...) {
			all[r.Key]++
		}
		for _, r := range theirs {
			if all[r.Key] == 0 {
				t.Fatal(r.Key, "was not told")
			}
		}
	}
}

func TestNothingIsKept(t *testing.T) {
	k := rec("k", ver(1, 2, api.Span{S: 1, From: 1, To: 1}))
	vec := []int64{7}
	c, _ := NewCut(1, vec, rs{k})
	p := pull(t)
	p.Begin(vec, c.Open())
	vec[0] = 8
	c.Vec()[0], p.Vec()[0] = 9, 9
	p.Wants()[0][0] = 99
	place := tree.Place("k")
	h, _, _ := c.Want(place[:1])
	path := append(make([]int, 0, 9), place[0])
	p.Tell(path, h, nil)
	if path[:2][1] != 0 {
		t.Error("the spare room is changed")
	}
	p.Wants()[0][1] = 99
	_, l, _ := c.Want(place)
	p.Tell(place, nil, l)
	l[0].Vers[0].Past[0].To = 9
	k.Vers[0].Past[0].To = 8
	p.Staged()[0].Vers[0].Past[0].To = 7
	_, l, _ = c.Want(place)
	if c.Vec()[0] != 7 || p.Vec()[0] != 7 || l[0].Vers[0].Past[0].To != 1 || p.Staged()[0].Vers[0].Past[0].To != 1 {
		t.Error("kept")
	}
}
