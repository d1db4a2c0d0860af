package vect_test

import (
	"slices"
	"testing"

	"firth/api"
	"firth/span"
	. "firth/vect"
)

const most = api.MaxCount

type v = []int64

var wrong = []v{nil, {}, make(v, 17), {-1}, {0, most + 1}, {1, -1 << 63}}

func TestRight(t *testing.T) {
	for _, x := range []v{{0}, {most}, make(v, 16), {1, 0, 5}} {
		if !Right(x) {
			t.Error(x)
		}
	}
	for _, x := range wrong {
		if Right(x) {
			t.Error(x)
		}
	}
}

func TestAtCoversHolds(t *testing.T) {
	x := v{3, 0}
	if At(x, 1) != 3 || At(x, 2) != 0 || At(x, 3) != 0 || At(x, 0) != 0 || At(x, -1<<63) != 0 || At(nil, 1) != 0 || At(v{-4}, 1) != -4 {
		t.Error("At")
	}
	for d, want := range map[api.Dot]bool{{S: 1, N: 3}: true, {S: 1, N: 1}: true, {S: 1, N: 4}: false, {S: 3, N: 1}: false, {S: 1, N: 0}: false, {S: 1, N: -1}: false, {S: 0, N: 1}: false, {S: 2, N: 1}: false, {S: -1, N: 1}: false} {
		if Covers(x, d) != want {
			t.Error(d)
		}
	}
	if !Covers(v{0, 2}, api.Dot{S: 2, N: 2}) || !Holds(v{0, 2}, []api.Span{{S: 2, From: 1, To: 2}}) {
		t.Error("the last site")
	}
	if Covers(v{-2}, api.Dot{S: 1, N: -3}) {
		t.Error("a dot below 1")
	}
	if !Holds(x, nil) || !Holds(nil, nil) || !Holds(x, []api.Span{{S: 1, From: 2, To: 3}}) {
		t.Error("Holds")
	}
	if Holds(x, []api.Span{{S: 1, From: 1, To: 3}, {S: 2, From: 1, To: 1}}) || Holds(x, []api.Span{{S: 1, From: 1, To: 4}}) || Holds(x, []api.Span{{S: 1}}) || Holds(nil, []api.Span{{S: 1, From: 1, To: 1}}) {
		t.Error("holds too much")
	}
}

func TestJoin(t *testing.T) {
	if got, e := Join(v{1, 5}, v{4, 2}); e != 0 || !slices.Equal(got, v{4, 5}) {
		t.Error(got, e)
	}
	for _, x := range wrong {
		if got, e := Join(x, v{1}); got != nil || e != api.ErrArg {
			t.Error(x, got, e)
		}
		if got, e := Join(v{1}, x); got != nil || e != api.ErrArg {
			t.Error(x, got, e)
		}
	}
	if _, e := Join(v{1}, v{1, 2}); e != api.ErrArg {
		t.Error(e)
	}
	long := make(v, 16)
	long[15] = 7
	if got, e := Join(long, make(v, 16)); e != 0 || !slices.Equal(got, long) {
		t.Error(got, e)
	}
}

func TestBelow(t *testing.T) {
	if !Below(v{1, 2}, v{1, 3}) || !Below(v{1}, v{1}) || Below(v{2, 0}, v{1, 9}) || Below(v{1}, v{1, 1}) {
		t.Error("Below")
	}
	for _, x := range wrong {
		if Below(x, x) || Below(x, v{most}) || Below(v{0}, x) {
			t.Error(x)
		}
	}
}

func TestNextAndBump(t *testing.T) {
	if d, e := Next(v{3, 0}, 2); e != 0 || d != (api.Dot{S: 2, N: 1}) {
		t.Error(d, e)
	}
	if got, e := Bump(v{3, 0}, api.Dot{S: 1, N: 4}); e != 0 || !slices.Equal(got, v{4, 0}) {
		t.Error(got, e)
	}
	if d, e := Next(v{most}, 1); e != api.ErrCount || d != (api.Dot{}) {
		t.Error(d, e)
	}
	if got, e := Bump(v{most - 1}, api.Dot{S: 1, N: most}); e != 0 || got[0] != most {
		t.Error(got, e)
	}
	for _, s := range []int{0, -1, 3, 17} {
		if _, e := Next(v{3, 0}, s); e != api.ErrArg {
			t.Error(s, e)
		}
	}
	for _, x := range wrong {
		if _, e := Next(x, 1); e != api.ErrArg {
			t.Error(x, e)
		}
		if _, e := Bump(x, api.Dot{S: 1, N: 1}); e != api.ErrArg {
			t.Error(x, e)
		}
	}
	for _, d := range []api.Dot{{}, {S: 1, N: 3}, {S: 1, N: 5}, {S: 3, N: 1}, {S: 2, N: 0}} {
		if got, e := Bump(v{3, 0}, d); got != nil || e != api.ErrArg {
			t.Error(d, got, e)
		}
	}
	if _, e := Bump(v{most}, api.Dot{S: 1, N: most + 1}); e != api.ErrArg {
		t.Error(e)
	}
}

func TestSet(t *testing.T) {
	got := Set(v{3, 0, 1})
	if !slices.Equal(got, []api.Span{{S: 1, From: 1, To: 3}, {S: 3, From: 1, To: 1}}) || !span.Right(got) {
		t.Error(got)
	}
	for _, x := range append(wrong, v{0, 0}) {
		if len(Set(x)) != 0 {
			t.Error(x)
		}
	}
}

func TestWhatIsHandedInStays(t *testing.T) {
	a, b := append(make(v, 0, 20), 1, 2), v{2, 1}
	j, _ := Join(a, b)
	j[0] = 9
	n, _ := Bump(a, api.Dot{S: 1, N: 2})
	n[1] = 9
	if !slices.Equal(a, v{1, 2}) || !slices.Equal(b, v{2, 1}) || a[:3][2] != 0 {
		t.Error(a, b)
	}
}
