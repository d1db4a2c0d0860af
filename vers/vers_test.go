package vers_test

import (
	"math/rand"
	"slices"
	"strings"
	"testing"

	"firth/api"
	"firth/num"
	. "firth/vers"
)

func sp(s int, from, to int64) api.Span { return api.Span{S: s, From: from, To: to} }

func ver(s int, n int64, past ...api.Span) api.Ver {
	return api.Ver{Dot: api.Dot{S: s, N: n}, Past: past, Val: "v" + num.Digits(n)}
}

var (
	a = ver(1, 1)
	b = ver(1, 2, sp(1, 1, 1))
	c = ver(2, 1)
)

type vs = []api.Ver

// odds has many spans.
func odds(s, count int, from int64) []api.Span {
	var l []api.Span
	for i := range count {
		n := from + 2*int64(i)
		l = append(l, sp(s, n, n))
	}
	return l
}

func many(s, count int) vs {
	var l vs
	for i := range count {
		l = append(l, ver(s, int64(i)+1))
	}
	return l
}

func TestRightOne(t *testing.T) {
	gone := api.Ver{Dot: api.Dot{S: 1, N: 1}, Gone: true}
	for _, v := range []api.Ver{a, b, gone, ver(16, api.MaxCount, sp(16, 1, api.MaxCount-1)), ver(2, 1, sp(1, 1, api.MaxCount)), {Dot: a.Dot, Val: strings.Repeat("x", 256)}, {Dot: a.Dot, Past: []api.Span{}}} {
		if !RightOne(v) || !Right(vs{v}) {
			t.Error(v)
		}
	}
	gone.Val = "v"
	for _, v := range []api.Ver{{}, gone, ver(0, 1), ver(17, 1), ver(1, 0), ver(1, -4), ver(1, api.MaxCount+1), ver(1, 3, sp(1, 3, 3)), ver(1, 3, sp(1, 1, 1), sp(1, 4, 4)), ver(1, 3, sp(1, 1, 1), sp(1, 2, 2)), ver(1, 9, sp(2, 0, 1)), {Dot: a.Dot, Val: strings.Repeat("x", 257)}} {
		if RightOne(v) || Right(vs{v}) {
			t.Error(v)
		}
	}
}

func TestRight(t *testing.T) {
	for _, l := range [][]api.Ver{nil, {}, {a, c}, {b, c}, many(1, api.MaxVers), {ver(1, 5, sp(1, 1, 3)), ver(2, 1, sp(1, 1, 4))}} {
		if !Right(l) {
			t.Error(l)
		}
	}
	for _, l := range [][]api.Ver{{a, b}, {c, a}, {a, a}, {b, a}, many(1, api.MaxVers+1), {a, ver(2, 1, sp(1, 1, 4))}, {ver(1, 1, sp(2, 7, 9)), ver(2, 8)}, {a, {}}} {
		if Right(l) {
			t.Error(l)
		}
	}
}

func TestSame(t *testing.T) {
	empty := a
	empty.Past = []api.Span{}
	if !Same(vs{a, c}, vs{empty, c}) || !Same(nil, vs{}) || !Same(vs{c, {}}, vs{c, {}}) {
		t.Error("the same")
	}
	val, gone, past := a, a, a
	val.Val, gone.Gone, past.Past = "w", true, []api.Span{sp(3, 1, 1)}
	for _, l := range [][]api.Ver{nil, {val}, {gone}, {past}, {a, c}, {b}} {
		if Same(vs{a}, l) || Same(l, vs{a}) {
			t.Error(l)
		}
	}
}

func TestMerge(t *testing.T) {
	for i, x := range []struct{ a, b, want vs }{
		{vs{a}, vs{b}, vs{b}}, {vs{b}, vs{a}, vs{b}}, {vs{a}, vs{c}, vs{a, c}}, {vs{a, c}, vs{b}, vs{b, c}},
		{nil, nil, nil}, {vs{a}, nil, vs{a}}, {vs{a}, vs{a}, vs{a}},
		{vs{ver(1, 5, sp(2, 1, 1))}, vs{ver(2, 1, sp(1, 5, 5))}, nil},
		{vs{ver(1, 1)}, vs{ver(2, 9, sp(1, 1, 1)), ver(3, 1)}, vs{ver(2, 9, sp(1, 1, 1)), ver(3, 1)}},
	} {
		if got, e := Merge(x.a, x.b); e != 0 || !Same(got, x.want) {
			t.Error(i, got, e)
		}
	}
	val, past := a, a
	val.Val, past.Past = "other", []api.Span{sp(5, 1, 1)}
	for _, twin := range []api.Ver{val, past} {
		if got, e := Merge(vs{a}, vs{twin}); got != nil || e != api.ErrTwin {
			t.Error(got, e)
		}
	}
	if _, e := Merge(vs{a, ver(3, 1)}, vs{val, c}); e != api.ErrTwin {
		t.Error(e)
	}
	// A twin is one, too, where a third version came behind it.
	if _, e := Merge(vs{a}, vs{val, ver(2, 1, sp(3, 1, 1))}); e != api.ErrTwin {
		t.Error(e)
	}
	if _, e := Merge(vs{a, b}, nil); e != api.ErrArg {
		t.Error(e)
	}
	if _, e := Merge(nil, vs{{}}); e != api.ErrArg {
		t.Error(e)
	}
	if got, e := Merge(many(1, 300), many(2, 212)); e != 0 || len(got) != 512 {
		t.Error(len(got), e)
	}
	if got, e := Merge(many(1, 300), many(2, 213)); e != api.ErrLong || got != nil {
		t.Error(len(got), e)
	}
	if got, e := Merge(many(1, 512), vs{ver(2, 1, sp(1, 5, 5))}); e != 0 || len(got) != 512 {
		t.Error(len(got), e)
	}
	if _, e := Merge(many(1, 512), append(vs{{Dot: api.Dot{S: 1, N: 1}}}, many(2, 1)...)); e != api.ErrTwin {
		t.Error(e)
	}
}

func TestShownPastLacksMark(t *testing.T) {
	gone := api.Ver{Dot: api.Dot{S: 1, N: 7}, Gone: true}
	if got := Shown(vs{a, gone, c}); !Same(got, vs{a, c}) || len(Shown(vs{gone})) != 0 {
		t.Error(got)
	}
	got, e := Past(vs{b, c})
	if e != 0 || !slices.Equal(got, []api.Span{sp(1, 1, 2), sp(2, 1, 1)}) {
		t.Error(got, e)
	}
	if got, e := Past(nil); e != 0 || len(got) != 0 {
		t.Error(got, e)
	}
	if _, e := Past(vs{a, b}); e != api.ErrArg {
		t.Error(e)
	}
	if !Lacks(vs{a}, vs{b}) || Lacks(vs{b}, vs{a}) || Lacks(vs{a}, vs{a}) || !Lacks(nil, vs{a}) || Lacks(vs{a}, nil) {
		t.Error("Lacks")
	}
	twin := a
	twin.Val = "other"
	if Lacks(vs{a}, vs{twin}) || Lacks(vs{a}, vs{{}}) || Lacks(vs{b, a}, vs{c}) {
		t.Error("lacks where there is an error")
	}
	if Mark("ab", vs{b, c}) != num.Hash([]byte{2, 'a', 'b', 1, 2, 2, 1}) || Mark("", nil) != num.Hash([]byte{0}) {
		t.Error("Mark")
	}
	if Mark("k", vs{ver(2, 300)}) != num.Hash([]byte{1, 'k', 2, 172, 2}) {
		t.Error("Mark of a greater number")
	}
}

func TestSpansOfPast(t *testing.T) {
	full := ver(2, 1, odds(1, api.MaxSpans, 1)...)
	if _, e := Past(vs{full}); e != api.ErrSpans {
		t.Error(e)
	}
	if got, e := Past(vs{ver(2, 1, odds(1, api.MaxSpans-1, 1)...)}); e != 0 || len(got) != api.MaxSpans {
		t.Error(len(got), e)
	}
	// What is too much on the way isn't at the end, where another version's Past fills the gaps.
	if got, e := Past(vs{full, ver(3, 1, odds(1, api.MaxSpans, 2)...)}); e != 0 || len(got) != 3 {
		t.Error(len(got), e)
	}
}

// history makes versions of which those that came behind one came behind all that that one came behind.
func history(rnd *rand.Rand, count int) vs {
	var all vs
	next := map[int]int64{}
	for range count {
		s := 1 + rnd.Intn(3)
		next[s]++
		v := ver(s, next[s])
		var seen vs
		for _, u := range all {
			if rnd.Intn(2) == 0 || u.Dot.S == s {
				seen, _ = Merge(seen, vs{u})
			}
		}
		v.Past, _ = Past(seen)
		all = append(all, v)
	}
	return all
}

func TestMergingIsWithoutOrder(t *testing.T) {
	rnd := rand.New(rand.NewSource(5))
	for range 200 {
		all := history(rnd, 1+rnd.Intn(8))
		var sets [3]vs
		for i := range sets {
			for _, v := range all {
				if rnd.Intn(2) == 0 {
					sets[i], _ = Merge(sets[i], vs{v})
				}
			}
		}
		x, y, z := sets[0], sets[1], sets[2]
		xy, _ := Merge(x, y)
		yx, _ := Merge(y, x)
		yz, _ := Merge(y, z)
		left, _ := Merge(xy, z)
		right, _ := Merge(x, yz)
		again, _ := Merge(left, y)
		if !Right(xy) || !Same(xy, yx) || !Same(left, right) || !Same(left, again) {
			t.Fatal(x, y, z)
		}
	}
}

func TestWhatIsAnsweredIsNew(t *testing.T) {
	in := vs{ver(1, 2, sp(1, 1, 1))}
	m, _ := Merge(in, nil)
	p, _ := Past(in)
	s := Shown(in)
	m[0].Past[0].S, p[0].S, s[0].Past[0].S = 7, 7, 7
	if in[0].Past[0].S != 1 {
		t.Error("shared")
	}
}
