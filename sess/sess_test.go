package sess_test

import (
	"slices"
	"testing"

	"firth/api"
	. "firth/sess"
)

func open(t *testing.T, sites ...int) *Sessions {
	t.Helper()
	s, e := New(3)
	if e != 0 {
		t.Fatal(e)
	}
	for i, site := range sites {
		if n, e := s.Open(site); n != i+1 || e != 0 {
			t.Fatal(n, e)
		}
	}
	return s
}

func begins(t *testing.T, s *Sessions, n int, op int64, site int, token string, e api.Errno) {
	t.Helper()
	if a, b, c := s.Begin(n, op); a != site || string(b) != token || c != e {
		t.Error(a, b, c)
	}
}

func TestNewAndOpen(t *testing.T) {
	for sites, want := range map[int]api.Errno{0: api.ErrArg, -1: api.ErrArg, 17: api.ErrArg, 1: 0, 16: 0} {
		if s, e := New(sites); e != want || (s == nil) != (e != 0) {
			t.Error(sites, e)
		}
	}
	s := open(t, 1, 3, 1)
	for _, site := range []int{0, 4, -1} {
		if n, e := s.Open(site); n != 0 || e != api.ErrArg {
			t.Error(site, n, e)
		}
	}
	if s.Len() != 3 || s.Site(2) != 3 || s.Token(2) != nil {
		t.Error(s.Len())
	}
	for _, n := range []int{0, 4, -1 << 63} {
		if s.Site(n) != 0 || s.Token(n) != nil {
			t.Error(n)
		}
	}
}

func TestExample(t *testing.T) {
	s := open(t, 1)
	begins(t, s, 1, 7, 1, "", 0)
	begins(t, s, 1, 8, 0, "", api.ErrBusy)
	if n, ok := s.End(7, []byte("t")); n != 1 || !ok || string(s.Token(1)) != "t" {
		t.Error(n, ok)
	}
	if e := s.Go(1, 2); e != 0 || s.Site(1) != 2 {
		t.Error(e)
	}
	begins(t, s, 1, 9, 2, "t", 0)
}

func TestBeginAndEnd(t *testing.T) {
	s := open(t, 1, 2)
	begins(t, s, 3, 0, 0, "", api.ErrSession)
	begins(t, s, 0, 7, 0, "", api.ErrSession)
	begins(t, s, 1, 0, 0, "", api.ErrArg)
	begins(t, s, 1, -4, 0, "", api.ErrArg)
	begins(t, s, 1, 7, 1, "", 0)
	begins(t, s, 2, 7, 0, "", api.ErrArg)
	begins(t, s, 1, 7, 0, "", api.ErrArg)
	begins(t, s, 2, 8, 2, "", 0)
	if n, ok := s.End(9, []byte("x")); n != 0 || ok {
		t.Error(n, ok)
	}
	if n, ok := s.End(8, []byte("x")); n != 2 || !ok {
		t.Error(n, ok)
	}
	if n, ok := s.End(8, []byte("y")); n != 0 || ok || string(s.Token(2)) != "x" {
		t.Error(n, ok)
	}
	begins(t, s, 2, 8, 2, "x", 0)
	if n, ok := s.End(8, nil); n != 2 || !ok || string(s.Token(2)) != "x" {
		t.Error("a token without bytes changes nothing")
	}
}

func TestGo(t *testing.T) {
	s := open(t, 1, 2)
	begins(t, s, 1, 7, 1, "", 0)
	for _, x := range []struct {
		n, site int
		e       api.Errno
	}{{3, 9, api.ErrSession}, {1, 0, api.ErrArg}, {1, 4, api.ErrArg}, {1, 2, api.ErrBusy}, {2, 2, 0}, {2, 3, 0}} {
		if e := s.Go(x.n, x.site); e != x.e {
			t.Error(x, e)
		}
	}
	if s.Site(1) != 1 || s.Site(2) != 3 {
		t.Error("Go")
	}
}

func TestLost(t *testing.T) {
	s := open(t, 1, 2, 1, 1)
	begins(t, s, 4, 5, 1, "", 0)
	begins(t, s, 1, 9, 1, "", 0)
	begins(t, s, 2, 1, 2, "", 0)
	if len(s.Lost(3)) != 0 || len(s.Lost(0)) != 0 {
		t.Error("none")
	}
	if got := s.Lost(1); !slices.Equal(got, []int64{9, 5}) {
		t.Error(got)
	}
	if len(s.Lost(1)) != 0 {
		t.Error("lost twice")
	}
	if _, ok := s.End(9, nil); ok {
		t.Error("ended twice")
	}
	begins(t, s, 1, 5, 1, "", 0)
	if n, ok := s.End(1, nil); n != 2 || !ok {
		t.Error(n, ok)
	}
}

func TestNothingIsKept(t *testing.T) {
	s := open(t, 1)
	begins(t, s, 1, 7, 1, "", 0)
	in := []byte("ab")
	s.End(7, in)
	in[0] = 'X'
	s.Token(1)[0] = 'Y'
	_, b, _ := s.Begin(1, 8)
	b[1] = 'Z'
	if string(s.Token(1)) != "ab" {
		t.Error(string(s.Token(1)))
	}
}
