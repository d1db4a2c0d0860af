package span_test

import (
	"math/rand"
	"slices"
	"testing"

	"firth/api"
	. "firth/span"
)

const most = api.MaxCount

func row(n int, from int64) []api.Span {
	var l []api.Span
	for i := range n {
		l = append(l, api.Span{S: 1, From: from + 2*int64(i), To: from + 2*int64(i)})
	}
	return l
}

var right = [][]api.Span{
	nil, {}, {{S: 1, From: 1, To: 1}}, {{S: 16, From: 1, To: most}}, {{S: 1, From: 1, To: 3}, {S: 1, From: 5, To: 6}}, {{S: 1, From: most, To: most}, {S: 2, From: 1, To: 1}},
	{{S: 1, From: 1, To: most - 2}, {S: 1, From: most, To: most}},
}

var wrong = [][]api.Span{
	{{S: 0, From: 1, To: 1}}, {{S: 17, From: 1, To: 1}}, {{S: -1, From: 1, To: 1}}, {{S: 1, From: 0, To: 1}}, {{S: 1, From: 2, To: 1}}, {{S: 1, From: 1, To: most + 1}}, {{S: 1, From: -3, To: -2}},
	{{S: 1, From: 1, To: 2}, {S: 1, From: 3, To: 4}}, {{S: 1, From: 5, To: 6}, {S: 1, From: 1, To: 3}}, {{S: 2, From: 1, To: 1}, {S: 1, From: 1, To: 1}}, {{S: 1, From: 1, To: 1}, {S: 1, From: 1, To: 1}},
	{{S: 1, From: 1, To: 5}, {S: 1, From: 4, To: 9}}, {{S: 1, From: -1 << 63, To: 1<<63 - 1}}, {{S: 1, From: 1, To: 3}, {S: 1, From: -1 << 63, To: 9}},
}

func TestRight(t *testing.T) {
	for _, l := range append(right, row(api.MaxSpans, 1)) {
		if !Right(l) {
			t.Error(l)
		}
	}
	for _, l := range append(wrong, row(api.MaxSpans+1, 1)) {
		if Right(l) {
			t.Error(l)
		}
	}
}

func TestHasAndTop(t *testing.T) {
	l := []api.Span{{S: 2, From: 5, To: 7}, {S: 1, From: 1, To: 3}, {S: 2, From: 1, To: 1}}
	for d, want := range map[api.Dot]bool{{S: 2, N: 5}: true, {S: 2, N: 7}: true, {S: 2, N: 8}: false, {S: 2, N: 4}: false, {S: 1, N: 1}: true, {S: 3, N: 1}: false, {S: 2, N: 1}: true, {}: false} {
		if Has(l, d) != want {
			t.Error(d)
		}
	}
	if Top(l, 2) != 7 || Top(l, 1) != 3 || Top(l, 3) != 0 || Top([]api.Span{{S: 1, From: -9, To: -5}}, 1) != 0 || Top(nil, 0) != 0 {
		t.Error("Top")
	}
}

func TestAdd(t *testing.T) {
	for _, x := range []struct {
		l    []api.Span
		d    api.Dot
		want []api.Span
	}{
		{[]api.Span{{S: 1, From: 1, To: 3}, {S: 1, From: 5, To: 6}}, api.Dot{S: 1, N: 4}, []api.Span{{S: 1, From: 1, To: 6}}},
		{nil, api.Dot{S: 16, N: most}, []api.Span{{S: 16, From: most, To: most}}},
		{[]api.Span{{S: 1, From: 1, To: 3}}, api.Dot{S: 1, N: 2}, []api.Span{{S: 1, From: 1, To: 3}}},
		{[]api.Span{{S: 1, From: 2, To: 3}}, api.Dot{S: 1, N: 1}, []api.Span{{S: 1, From: 1, To: 3}}},
		{[]api.Span{{S: 1, From: 1, To: 3}, {S: 3, From: 1, To: 1}}, api.Dot{S: 2, N: 4}, []api.Span{{S: 1, From: 1, To: 3}, {S: 2, From: 4, To: 4}, {S: 3, From: 1, To: 1}}},
		{[]api.Span{{S: 1, From: 1, To: 3}}, api.Dot{S: 1, N: 5}, []api.Span{{S: 1, From: 1, To: 3}, {S: 1, From: 5, To: 5}}},
	} {
		if got, e := Add(x.l, x.d); e != 0 || !slices.Equal(got, x.want) {
			t.Error(x, got, e)
		}
	}
	for _, d := range []api.Dot{{}, {S: 1}, {N: 1}, {S: 17, N: 1}, {S: 1, N: -1}, {S: 1, N: most + 1}} {
		if got, e := Add(nil, d); e != api.ErrArg || got != nil {
			t.Error(d, got, e)
		}
	}
	for _, l := range wrong {
		if _, e := Add(l, api.Dot{S: 1, N: 1}); e != api.ErrArg {
			t.Error(l, e)
		}
	}
	full := row(api.MaxSpans, 1)
	if got, e := Add(full, api.Dot{S: 2, N: 1}); e != api.ErrSpans || got != nil {
		t.Error(len(got), e)
	}
	if got, e := Add(full, api.Dot{S: 1, N: 2}); e != 0 || len(got) != api.MaxSpans-1 {
		t.Error(len(got), e)
	}
}

func TestJoin(t *testing.T) {
	got, e := Join([]api.Span{{S: 1, From: 1, To: 2}}, []api.Span{{S: 1, From: 2, To: 5}, {S: 2, From: 1, To: 1}})
	if e != 0 || !slices.Equal(got, []api.Span{{S: 1, From: 1, To: 5}, {S: 2, From: 1, To: 1}}) {
		t.Error(got, e)
	}
	for _, l := range wrong {
		if _, e := Join(l, nil); e != api.ErrArg {
			t.Error(l, e)
		}
		if _, e := Join(nil, l); e != api.ErrArg {
			t.Error(l, e)
		}
	}
	// Both lists together have more spans than may be, but what comes of them hasn't.
	if got, e := Join(row(api.MaxSpans, 1), row(api.MaxSpans, 2)); e != 0 || !slices.Equal(got, []api.Span{{S: 1, From: 1, To: 2 * api.MaxSpans}}) {
		t.Error(len(got), e)
	}
	if _, e := Join(row(api.MaxSpans, 1), row(1, 5000)); e != api.ErrSpans {
		t.Error(e)
	}
	if got, e := Join(row(api.MaxSpans-1, 1), row(1, 5000)); e != 0 || len(got) != api.MaxSpans {
		t.Error(len(got), e)
	}
}

func TestWithin(t *testing.T) {
	for _, x := range []struct {
		a, b []api.Span
		want bool
	}{
		{[]api.Span{{S: 1, From: 2, To: 2}}, []api.Span{{S: 1, From: 1, To: 5}}, true},
		{nil, nil, true},
		{nil, []api.Span{{S: 1, From: 1, To: 5}}, true},
		{[]api.Span{{S: 1, From: 1, To: 5}}, nil, false},
		{[]api.Span{{S: 1, From: 1, To: 2}, {S: 1, From: 4, To: 5}, {S: 3, From: 1, To: 1}}, []api.Span{{S: 1, From: 1, To: 9}, {S: 3, From: 1, To: 1}}, true},
		{[]api.Span{{S: 1, From: 1, To: 2}, {S: 2, From: 4, To: 5}}, []api.Span{{S: 1, From: 1, To: 9}, {S: 2, From: 4, To: 4}}, false},
		{[]api.Span{{S: 1, From: 1, To: 9}}, []api.Span{{S: 1, From: 1, To: 4}, {S: 1, From: 6, To: 9}}, false},
		{[]api.Span{{S: 1, From: 0, To: 1}}, []api.Span{{S: 1, From: 1, To: 5}}, false},
		{[]api.Span{{S: 1, From: 1, To: 1}}, []api.Span{{S: 1, From: 1, To: 2}, {S: 1, From: 3, To: 4}}, false},
	} {
		if Within(x.a, x.b) != x.want {
			t.Error(x)
		}
	}
}

func TestSize(t *testing.T) {
	for _, x := range []struct {
		l    []api.Span
		want int64
	}{
		{nil, 0}, {[]api.Span{{S: 1, From: 3, To: 5}, {S: 2, From: 1, To: 1}}, 4}, {[]api.Span{{S: 1, From: 1, To: most}}, most},
		{[]api.Span{{S: 1, From: 1, To: most}, {S: 2, From: 1, To: 1}}, most}, {[]api.Span{{S: 1, From: 1, To: most}, {S: 2, From: 1, To: most}, {S: 3, From: 1, To: most}, {S: 4, From: 1, To: most}}, most},
		{[]api.Span{{S: 1, From: 2, To: most}, {S: 2, From: 1, To: 1}}, most}, {[]api.Span{{S: 1, From: 3, To: most}, {S: 2, From: 1, To: 1}}, most - 1},
		{[]api.Span{{S: 1, From: 1, To: 2}, {S: 1, From: 3, To: 4}}, 0},
	} {
		if got := Size(x.l); got != x.want {
			t.Error(x, got)
		}
	}
}

func TestSetsInWhateverOrder(t *testing.T) {
	rnd := rand.New(rand.NewSource(3))
	for range 300 {
		have := map[api.Dot]int{}
		var dots []api.Dot
		for range rnd.Intn(40) {
			d := api.Dot{S: 1 + rnd.Intn(3), N: 1 + rnd.Int63n(12)}
			have[d] = 1
			dots = append(dots, d)
		}
		lists := [3][]api.Span{}
		for i := range lists {
			rnd.Shuffle(len(dots), func(a, b int) { dots[a], dots[b] = dots[b], dots[a] })
			for _, d := range dots {
				lists[i], _ = Add(lists[i], d)
			}
		}
		half := len(dots) / 2
		var a, b []api.Span
		for i, d := range dots {
			if i < half {
				a, _ = Add(a, d)
			} else {
				b, _ = Add(b, d)
			}
		}
		joined, _ := Join(a, b)
		if !slices.Equal(lists[0], lists[1]) || !slices.Equal(lists[0], joined) || !Right(joined) || Size(joined) != int64(len(have)) {
			t.Fatal(lists, joined)
		}
		if !Within(a, joined) || !Within(b, joined) || Within(joined, a) != (Size(a) == Size(joined)) {
			t.Fatal("Within")
		}
		for s := 1; s <= 3; s++ {
			for n := int64(1); n <= 13; n++ {
				if d := (api.Dot{S: s, N: n}); Has(joined, d) != (have[d] == 1) {
					t.Fatal(d)
				}
			}
		}
	}
}

func TestWhatIsHandedInStays(t *testing.T) {
	a := append(make([]api.Span, 0, 9), api.Span{S: 1, From: 1, To: 2})
	b := append(make([]api.Span, 0, 9), api.Span{S: 1, From: 3, To: 4})
	got, _ := Join(a, b)
	alone, _ := Join(a, nil)
	got[0].S, alone[0].S = 9, 9
	_, _ = Add(a, api.Dot{S: 2, N: 7})
	if a[0] != (api.Span{S: 1, From: 1, To: 2}) || b[0] != (api.Span{S: 1, From: 3, To: 4}) || a[:2][1] != (api.Span{}) {
		t.Error(a, b)
	}
}
