package quorum_test

import (
	"slices"
	"testing"

	"firth/api"
	. "firth/quorum"
	"firth/vers"
)

func sp(s int, from, to int64) api.Span { return api.Span{S: s, From: from, To: to} }

func ver(s int, n int64, past ...api.Span) api.Ver {
	return api.Ver{Dot: api.Dot{S: s, N: n}, Past: past, Val: "v"}
}

func rec(key string, l ...api.Ver) api.Rec { return api.Rec{Key: key, Vers: l} }

type vs = []api.Ver
type rs = []api.Rec

func sameRecs(a, b rs) bool {
	return slices.EqualFunc(a, b, func(x, y api.Rec) bool { return x.Key == y.Key && vers.Same(x.Vers, y.Vers) })
}

func TestArguments(t *testing.T) {
	for _, x := range []struct {
		list []int
		need int
		ok   bool
	}{
		{[]int{3, 1, 2}, 2, true}, {[]int{8}, 1, true}, {[]int{1, 2, 3, 4, 5, 6, 7, 8}, 8, true},
		{nil, 0, false}, {nil, 1, false}, {[]int{1}, 0, false}, {[]int{1}, 2, false}, {[]int{1}, -1, false},
		{[]int{0}, 1, false}, {[]int{9}, 1, false}, {[]int{1, 2, 1}, 1, false}, {[]int{1, 2, 3, 4, 5, 6, 7, 8, 8}, 1, false},
	} {
		w, e := NewWrite(x.list, x.need)
		r, e2 := NewRead(x.list, x.need)
		s, e3 := NewScan(x.list, x.need)
		if (w != nil) != x.ok || (r != nil) != x.ok || (s != nil) != x.ok || (e == 0) != x.ok || e != e2 || e != e3 || e != 0 && e != api.ErrArg {
			t.Error(x, e, e2, e3)
		}
	}
}

func TestWrite(t *testing.T) {
	list := []int{3, 1, 2}
	w, _ := NewWrite(list, 2)
	list[0] = 7
	if !slices.Equal(w.Waits(), []int{3, 1, 2}) || w.Done() {
		t.Error("at first")
	}
	if !w.Ack(1) || w.Ack(1) || w.Ack(4) || w.Ack(0) || w.Ack(-1) || w.Done() || !slices.Equal(w.Waits(), []int{3, 2}) {
		t.Error("one")
	}
	if !w.Ack(3) || !w.Done() || !slices.Equal(w.Waits(), []int{2}) {
		t.Error("two")
	}
	if !w.Ack(2) || !w.Done() || len(w.Waits()) != 0 {
		t.Error("all are counted, though it is done")
	}
}

func TestRead(t *testing.T) {
	a := vs{ver(1, 1)}
	r, _ := NewRead([]int{1, 2}, 2)
	if !r.Got(1, a) || r.Done() || !r.Got(2, nil) || !r.Done() || !vers.Same(r.Vers(), a) || !slices.Equal(r.Behind(), []int{2}) {
		t.Error("example")
	}
	r, _ = NewRead([]int{4, 3, 2, 1}, 3)
	if len(r.Vers()) != 0 || len(r.Behind()) != 0 {
		t.Error("nothing yet")
	}
	for _, wrong := range []vs{{{}}, {ver(2, 1), ver(1, 1)}, {ver(1, 1), ver(1, 2, sp(1, 1, 1))}} {
		if r.Got(1, wrong) {
			t.Error(wrong)
		}
	}
	newer := vs{ver(1, 2, sp(1, 1, 1))}
	if !r.Got(1, a) || r.Got(1, newer) || r.Got(5, a) || !r.Got(3, newer) || !r.Got(4, vs{ver(2, 1)}) || !r.Done() {
		t.Error("Got")
	}
	want := vs{ver(1, 2, sp(1, 1, 1)), ver(2, 1)}
	if !vers.Same(r.Vers(), want) || !slices.Equal(r.Behind(), []int{4, 3, 1}) {
		t.Error(r.Vers(), r.Behind())
	}
	if !r.Got(2, want) || !slices.Equal(r.Behind(), []int{4, 3, 1}) || len(r.Waits()) != 0 {
		t.Error(r.Behind())
	}
}

func TestTwinsArePassedOver(t *testing.T) {
	twin := ver(1, 1)
	twin.Val = "other"
	r, _ := NewRead([]int{2, 1}, 2)
	r.Got(1, vs{ver(1, 1)})
	r.Got(2, vs{twin})
	if !vers.Same(r.Vers(), vs{twin}) || len(r.Behind()) != 0 {
		t.Error(r.Vers(), r.Behind())
	}
	s, _ := NewScan([]int{2, 1}, 2)
	s.Got(1, rs{rec("k", ver(1, 1)), rec("l", ver(1, 2))})
	s.Got(2, rs{rec("k", twin)})
	if !sameRecs(s.Recs(), rs{rec("k", twin), rec("l", ver(1, 2))}) {
		t.Error(s.Recs())
	}
}

func TestScan(t *testing.T) {
	s, _ := NewScan([]int{3, 1, 2}, 2)
	if s.Got(1, rs{rec("k", ver(1, 1)), rec("")}) || s.Got(1, rs{rec("k", api.Ver{})}) || len(s.Recs()) != 0 {
		t.Error("wrong records")
	}
	if !s.Got(1, rs{rec("k", ver(1, 1)), rec("k", ver(3, 1)), rec("z")}) || s.Got(1, nil) || s.Done() {
		t.Error("one")
	}
	if !s.Got(2, rs{rec("a", ver(1, 5)), rec("k", ver(2, 1))}) || !s.Done() || !slices.Equal(s.Waits(), []int{3}) {
		t.Error("two")
	}
	if !sameRecs(s.Recs(), rs{rec("a", ver(1, 5)), rec("k", ver(1, 1), ver(2, 1), ver(3, 1))}) {
		t.Error(s.Recs())
	}
	if !s.Got(3, rs{rec("k", ver(4, 1, sp(1, 1, 1), sp(2, 1, 1), sp(3, 1, 1)))}) || len(s.Recs()[1].Vers) != 1 {
		t.Error(s.Recs())
	}
}

func orders(list []int) [][]int {
	if len(list) == 0 {
		return [][]int{nil}
	}
	var out [][]int
	for i, x := range list {
		rest := append(slices.Clone(list[:i]), list[i+1:]...)
		for _, o := range orders(rest) {
			out = append(out, append([]int{x}, o...))
		}
	}
	return out
}

func TestWhateverOrder(t *testing.T) {
	sets := []vs{nil, {ver(1, 1)}, {ver(1, 2, sp(1, 1, 1))}, {ver(1, 1), ver(2, 1)}, {ver(3, 1, sp(2, 1, 1))}}
	want := vs{ver(1, 2, sp(1, 1, 1)), ver(3, 1, sp(2, 1, 1))}
	for _, order := range orders([]int{1, 2, 3, 4}) {
		r, _ := NewRead([]int{2, 1, 4, 3}, 4)
		s, _ := NewScan([]int{2, 1, 4, 3}, 4)
		for _, node := range order {
			r.Got(node, sets[node])
			s.Got(node, rs{rec("k", sets[node]...)})
		}
		if !vers.Same(r.Vers(), want) || !sameRecs(s.Recs(), rs{rec("k", want...)}) {
			t.Error(order, r.Vers())
		}
	}
}

func TestAWritingAndAReadingMeet(t *testing.T) {
	list := []int{1, 2, 3, 4, 5}
	for w := 1; w <= 5; w++ {
		for r := 6 - w; r <= 5; r++ {
			for _, order := range orders(list)[:40] {
				write, _ := NewWrite(list, w)
				read, _ := NewRead(list, r)
				for _, node := range order {
					if !write.Done() {
						write.Ack(node)
					}
				}
				for i := range order {
					if node := order[len(order)-1-i]; !read.Done() {
						l := vs{ver(1, 1)}
						if slices.Contains(write.Waits(), node) {
							l = nil
						}
						read.Got(node, l)
					}
				}
				if len(read.Vers()) != 1 {
					t.Fatal(w, r, order)
				}
			}
		}
	}
}

func TestNothingIsShared(t *testing.T) {
	l := vs{ver(1, 2, sp(1, 1, 1))}
	r, _ := NewRead([]int{1}, 1)
	r.Got(1, l)
	s, _ := NewScan([]int{1}, 1)
	s.Got(1, rs{rec("k", l...)})
	l[0].Past[0].To = 9
	r.Vers()[0].Past[0].To = 8
	s.Recs()[0].Vers[0].Past[0].To = 7
	r.Waits()
	if r.Vers()[0].Past[0].To != 1 || s.Recs()[0].Vers[0].Past[0].To != 1 {
		t.Error("shared")
	}
}
