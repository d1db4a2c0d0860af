package judge_test

import (
	"cmp"
	"math/rand"
	"reflect"
	"slices"
	"testing"

	"firth/api"
	. "firth/judge"
	"firth/vect"
)

func d(s int, n int64) api.Dot { return api.Dot{S: s, N: n} }

func write(sess int, key string, s int, n int64) Act {
	return Act{Sess: sess, Key: key, Dot: d(s, n), OK: true}
}

func reads(sess int, key string, seen []int64, dots ...api.Dot) Act {
	return Act{Read: true, Sess: sess, Key: key, OK: true, Reads: dots, Seen: seen}
}

func failed(a Act) Act {
	a.OK = false
	return a
}

type v = []int64

func judged(t *testing.T, what string, at, verdict int, list ...Act) {
	t.Helper()
	if i, v := Judge(list); i != at || v != verdict {
		t.Errorf("%s: %d %d", what, i, v)
	}
}

func TestNumbers(t *testing.T) {
	if Well != 0 || Twice != 1 || Unknown != 2 || Strange != 3 || Open != 4 || Ahead != 5 || Stale != 6 {
		t.Error("numbers")
	}
}

func TestExample(t *testing.T) {
	list := []Act{write(1, "k", 1, 1), write(1, "k", 1, 2)}
	judged(t, "nothing", -1, Well)
	judged(t, "both", -1, Well, append(list, reads(2, "k", v{2}, d(1, 2)))...)
	judged(t, "the older one", 2, Stale, append(list, reads(2, "k", v{2}, d(1, 1)))...)
	list = append(list, reads(3, "k", v{2}, d(1, 2)), write(3, "k", 2, 1))
	if got := Behind(list, d(2, 1)); !slices.Equal(got, []api.Dot{d(1, 1), d(1, 2)}) {
		t.Error(got)
	}
	if got := Saw(list, 3); !slices.Equal(got, []api.Dot{d(1, 1), d(1, 2)}) {
		t.Error(got)
	}
	if len(Saw(list, 2)) != 0 || len(Saw(list, -1)) != 0 || len(Saw(list, 4)) != 0 || len(Saw(nil, 0)) != 0 {
		t.Error("Saw")
	}
	if len(Behind(list, d(1, 1))) != 0 || len(Behind(list, d(9, 9))) != 0 || len(Behind(list, api.Dot{})) != 0 {
		t.Error("Behind")
	}
}

func TestWhatIsSeen(t *testing.T) {
	list := []Act{
		failed(write(1, "k", 1, 1)), write(1, "k", 1, 2), {Sess: 1, Key: "k", OK: true}, failed(reads(1, "k", nil, d(5, 5))),
		{Read: true, Sess: 1, Key: "k", OK: true, Dot: d(7, 7)}, write(1, "l", 1, 3), {Sess: 1, OK: true, Dot: d(1, 0)}, {Sess: 1, OK: true, Dot: d(1, -3)},
		reads(1, "k", nil, d(8, 1), d(8, 1), d(2, 9)), write(1, "k", 1, 4),
	}
	if got := Behind(list, d(1, 4)); !slices.Equal(got, []api.Dot{d(1, 2), d(1, 3), d(2, 9), d(8, 1)}) {
		t.Error(got)
	}
	// A writing that failed may have been done: others may read it, and all that its session had seen is behind it.
	list = []Act{write(1, "k", 1, 1), failed(write(1, "k", 1, 2)), reads(2, "k", nil, d(1, 2)), write(2, "k", 2, 1)}
	if got := Behind(list, d(2, 1)); !slices.Equal(got, []api.Dot{d(1, 1), d(1, 2)}) {
		t.Error(got)
	}
	// The first writing with a dot counts.
	list = []Act{write(1, "k", 1, 1), write(2, "k", 1, 9), write(1, "k", 1, 9)}
	if len(Behind(list, d(1, 9))) != 0 {
		t.Error("the second one")
	}
}

func TestCircles(t *testing.T) {
	list := []Act{reads(1, "k", v{9, 9}, d(2, 1)), write(1, "k", 1, 1), reads(2, "k", v{9, 9}, d(1, 1)), write(2, "k", 2, 1)}
	both := []api.Dot{d(1, 1), d(2, 1)}
	if !slices.Equal(Behind(list, d(1, 1)), both) || !slices.Equal(Behind(list, d(2, 1)), both) || !slices.Equal(Saw(list, 1), both) {
		t.Error(Behind(list, d(1, 1)))
	}
	judged(t, "each is behind the other one", 0, Stale, list...)
}

func TestVerdicts(t *testing.T) {
	a, b := write(1, "k", 1, 1), write(2, "k", 2, 1)
	judged(t, "twice", 2, Twice, a, b, write(3, "l", 1, 1))
	judged(t, "twice, of one that failed", 1, Twice, failed(a), failed(a))
	judged(t, "no dot twice", -1, Well, Act{OK: true}, Act{OK: true}, Act{Dot: d(1, -1)}, Act{Dot: d(1, -1)})
	judged(t, "unknown", 1, Unknown, a, reads(3, "k", v{1, 1}, d(1, 1), d(2, 1)))
	judged(t, "unknown ahead of strange", 1, Unknown, a, reads(3, "l", v{1, 1}, d(1, 1), d(2, 1)))
	judged(t, "no dot", 1, Unknown, a, reads(3, "k", v{1, 1}, api.Dot{}))
	judged(t, "a failed reading", -1, Well, a, failed(reads(3, "k", v{1, 1}, d(7, 7))))
	judged(t, "written later", -1, Well, reads(3, "k", v{0}, d(1, 1)), a)
	judged(t, "strange", 1, Strange, a, reads(3, "l", v{1}, d(1, 1)))
	judged(t, "the first one's key", 1, Strange, a, reads(3, "l", v{1}, d(1, 1)), write(4, "l", 1, 1))
	judged(t, "side by side", -1, Well, a, b, reads(3, "k", v{1, 1}, d(2, 1), d(1, 1), d(2, 1)))
	judged(t, "one lacks", 2, Stale, a, b, reads(3, "k", v{1, 1}, d(2, 1)))
	judged(t, "one is not covered", -1, Well, a, b, reads(3, "k", v{1, 0}, d(1, 1)))
	judged(t, "one that isn't covered, but is told", -1, Well, a, b, reads(3, "k", v{1}, d(1, 1), d(2, 1)))
	judged(t, "nothing covered", -1, Well, a, b, reads(3, "k", nil))
	judged(t, "of any counts", -1, Well, a, b, reads(3, "k", v{-7, -1 << 63}))

	c := reads(2, "k", v{1}, d(1, 1))
	judged(t, "not all that is behind it", 3, Open, a, c, b, reads(3, "k", v{0, 1}, d(2, 1)))
	judged(t, "all of it", -1, Well, a, c, b, reads(3, "k", v{1, 1}, d(2, 1)))
	judged(t, "not covered, but told", -1, Well, a, c, b, reads(3, "k", v{1, 0}, d(2, 1)))
	judged(t, "its session has seen more", 2, Ahead, a, reads(3, "k", v{1}, d(1, 1)), reads(3, "l", v{0}))
	judged(t, "what it wrote itself", 1, Ahead, a, reads(1, "l", nil))
	judged(t, "what was behind what it read", 4, Ahead, a, c, b, reads(3, "k", v{1, 1}, d(2, 1)), reads(3, "l", v{0, 0}))
	judged(t, "open ahead of ahead", 4, Open, a, c, b, reads(3, "k", v{1, 1}, d(2, 1)), reads(3, "l", v{0, 1}))
	judged(t, "another key doesn't pass it", -1, Well, a, write(1, "l", 1, 2), reads(3, "k", v{2}, d(1, 1)))
	judged(t, "through another key", -1, Well, a, write(1, "l", 1, 2), reads(2, "l", v{2}, d(1, 2)), b, reads(3, "k", v{2, 1}, d(2, 1)))
	judged(t, "through another key, stale", 4, Stale, a, write(1, "l", 1, 2), reads(2, "l", v{2}, d(1, 2)), b, reads(3, "k", v{2, 1}, d(2, 1), d(1, 1)))
	judged(t, "told, so behind is in H", 3, Stale, a, c, b, reads(3, "k", v{}, d(2, 1), d(1, 1)))
	judged(t, "the first of several", 1, Stale, a, reads(3, "k", v{1}), reads(4, "k", v{1}))
}

type set map[api.Dot]struct{}

func (s set) has(d api.Dot) bool {
	_, there := s[d]
	return there
}

func rising(s set) []api.Dot {
	var list []api.Dot
	for d := range s {
		list = append(list, d)
	}
	slices.SortFunc(list, func(a, b api.Dot) int { return cmp.Or(cmp.Compare(a.S, b.S), cmp.Compare(a.N, b.N)) })
	return list
}

// slow works out what is behind each dot by joining sets till nothing changes.
func slow(list []Act) (func(api.Dot) set, func(int) set) {
	first := map[api.Dot]int{}
	for i, a := range list {
		if _, there := first[a.Dot]; !there && !a.Read && a.Dot.N > 0 {
			first[a.Dot] = i
		}
	}
	behind := map[api.Dot]set{}
	for x := range first {
		behind[x] = set{}
	}
	saw := func(i int) set {
		out := set{}
		for j := range i {
			a := list[j]
			if a.Sess != list[i].Sess || !a.OK {
				continue
			}
			dots := a.Reads
			if !a.Read {
				dots = nil
				if a.Dot.N > 0 {
					dots = []api.Dot{a.Dot}
				}
			}
			for _, x := range dots {
				out[x] = struct{}{}
				for y := range behind[x] {
					out[y] = struct{}{}
				}
			}
		}
		return out
	}
	for changed := true; changed; {
		changed = false
		for x, i := range first {
			if s := saw(i); len(s) != len(behind[x]) {
				behind[x] = s
				changed = true
			}
		}
	}
	return func(x api.Dot) set { return behind[x] }, saw
}

func slowVerdict(list []Act, i int) int {
	behind, saw := slow(list)
	a := list[i]
	first := func(x api.Dot) int {
		return slices.IndexFunc(list, func(a Act) bool { return !a.Read && a.Dot.N > 0 && a.Dot == x })
	}
	if !a.Read {
		if a.Dot.N > 0 && first(a.Dot) < i {
			return Twice
		}
		return Well
	}
	if !a.OK {
		return Well
	}
	for _, x := range a.Reads {
		if first(x) < 0 {
			return Unknown
		}
	}
	for _, x := range a.Reads {
		if list[first(x)].Key != a.Key {
			return Strange
		}
	}
	all := saw(i)
	for _, w := range list {
		if w.Read || w.Dot.N <= 0 || !vect.Covers(a.Seen, w.Dot) {
			continue
		}
		for y := range behind(w.Dot) {
			if !vect.Covers(a.Seen, y) {
				return Open
			}
		}
		all[w.Dot] = struct{}{}
	}
	for x := range saw(i) {
		if !vect.Covers(a.Seen, x) {
			return Ahead
		}
	}
	for _, x := range a.Reads {
		all[x] = struct{}{}
		for y := range behind(x) {
			all[y] = struct{}{}
		}
	}
	under := set{}
	for _, w := range list {
		if all.has(w.Dot) && !w.Read && w.Dot.N > 0 && w.Key == a.Key {
			under[w.Dot] = struct{}{}
		}
	}
	want, told := set{}, set{}
	for x := range under {
		passed := false
		for y := range under {
			passed = passed || behind(y).has(x)
		}
		if !passed {
			want[x] = struct{}{}
		}
	}
	for _, x := range a.Reads {
		told[x] = struct{}{}
	}
	if !reflect.DeepEqual(want, told) {
		return Stale
	}
	return Well
}

func someHistory(rnd *rand.Rand) []Act {
	var list []Act
	next := v{0, 0, 0}
	for range 1 + rnd.Intn(10) {
		a := Act{Sess: rnd.Intn(3), Key: string(rune('k' + rnd.Intn(2))), OK: rnd.Intn(5) > 0, Read: rnd.Intn(2) == 0}
		if a.Read {
			for range rnd.Intn(3) {
				a.Reads = append(a.Reads, d(1+rnd.Intn(2), int64(1+rnd.Intn(3))))
			}
			a.Seen = v{int64(rnd.Intn(4)), int64(rnd.Intn(4))}
		} else if s := rnd.Intn(3); s > 0 {
			if rnd.Intn(9) > 0 {
				next[s]++
			}
			a.Dot = d(s, next[s])
		}
		list = append(list, a)
	}
	return list
}

func TestAgainstTheSlowWay(t *testing.T) {
	rnd := rand.New(rand.NewSource(23))
	counts := map[int]int{}
	for range 20000 {
		list := someHistory(rnd)
		at, verdict := -1, Well
		for i := range list {
			if v := slowVerdict(list, i); v != Well {
				at, verdict = i, v
				break
			}
		}
		counts[verdict]++
		if i, v := Judge(list); i != at || v != verdict {
			t.Fatalf("%+v: %d %d, not %d %d", list, i, v, at, verdict)
		}
		behind, saw := slow(list)
		for i, a := range list {
			if !slices.Equal(Saw(list, i), rising(saw(i))) || !a.Read && a.Dot.N > 0 && !slices.Equal(Behind(list, a.Dot), rising(behind(a.Dot))) {
				t.Fatalf("%+v", list)
			}
		}
	}
	for v := Well; v <= Stale; v++ {
		if counts[v] < 20 {
			t.Error(v, counts[v])
		}
	}
}

func TestWhatIsAddedChangesNothing(t *testing.T) {
	rnd := rand.New(rand.NewSource(24))
	for range 500 {
		list := someHistory(rnd)
		more := slices.Clone(list)
		for i := range 5 {
			more = append(more, write(rnd.Intn(3), "k", 3, int64(i)+1), reads(rnd.Intn(3), "k", v{1}, d(3, 1), d(1, 1)))
		}
		for i, a := range list {
			if !a.Read && a.Dot.N > 0 && !slices.Equal(Behind(list, a.Dot), Behind(more, a.Dot)) || !slices.Equal(Saw(list, i), Saw(more, i)) {
				t.Fatalf("%+v", list)
			}
		}
	}
}

func TestLongHistories(t *testing.T) {
	var list []Act
	for i := range int64(800) {
		list = append(list, write(int(i%5), "k", 1, i+1), reads(int(i%5), "l", v{i + 1}))
	}
	if i, v := Judge(list); i != -1 || v != Well {
		t.Error(i, v)
	}
}

func TestWhatIsHandedInStays(t *testing.T) {
	list := make([]Act, 2, 9)
	list[0], list[1] = write(1, "k", 1, 1), reads(1, "k", v{1}, d(1, 1))
	list[1].Reads = append(make([]api.Dot, 0, 9), d(1, 1))
	Judge(list)
	got := Saw(list, 1)
	got[0] = d(9, 9)
	if list[1].Reads[0] != d(1, 1) || list[1].Reads[:2][1] != (api.Dot{}) || list[0].Dot != d(1, 1) {
		t.Error("changed")
	}
}
