package seal_test

import (
	"bytes"
	"slices"
	"strings"
	"testing"

	"firth/api"
	"firth/code"
	"firth/num"
	. "firth/seal"
)

var sets = [][]api.Span{nil, {{S: 1, From: 1, To: 3}}, {{S: 1, From: 1, To: 3}, {S: 1, From: 5, To: 300}, {S: 16, From: 1, To: api.MaxCount}}}

func TestMark(t *testing.T) {
	for _, secret := range []string{"", "s", strings.Repeat("x", 200)} {
		text := num.PutText(secret)
		h := num.Hash(append(slices.Clone(text), 1, 2, 3))
		in := append(slices.Clone(text), num.PutNum(int64(h/(1<<32)))...)
		in = append(append(in, num.PutNum(int64(h%(1<<32)))...), text...)
		want := num.Hash(in)
		got := Mark(secret, []byte{1, 2, 3})
		if len(got) != 8 {
			t.Fatal(got)
		}
		var n uint64
		for _, c := range got {
			n = n*256 + uint64(c)
		}
		if n != want {
			t.Error(secret, got, want)
		}
	}
	if bytes.Equal(Mark("ab", []byte("c")), Mark("a", []byte("bc"))) {
		t.Error("alike")
	}
}

func TestSealAndOpen(t *testing.T) {
	secret := strings.Repeat("s", 64)
	for _, l := range sets {
		for _, group := range []int64{0, 300, 1<<63 - 1} {
			b, e := Seal(secret, group, l)
			set, _ := code.PutSet(l)
			want := append(append([]byte{1}, num.PutNum(group)...), set...)
			want = append(want, Mark(secret, want)...)
			if e != 0 || !bytes.Equal(b, want) {
				t.Error(b, e)
			}
			if got, e := Open(secret, group, b); e != 0 || !slices.Equal(got, l) {
				t.Error(got, e)
			}
		}
	}
	if got, e := Open("s", 3, nil); got != nil || e != 0 {
		t.Error(got, e)
	}
	if b, e := Seal("s", 3, nil); len(b) == 0 || e != 0 {
		t.Error("the token of no bytes is never sealed")
	}
}

func TestArguments(t *testing.T) {
	for _, secret := range []string{"", strings.Repeat("s", 65)} {
		if b, e := Seal(secret, 3, nil); b != nil || e != api.ErrArg {
			t.Error(b, e)
		}
		if l, e := Open(secret, 3, nil); l != nil || e != api.ErrArg {
			t.Error(l, e)
		}
	}
	if _, e := Seal("s", -1, nil); e != api.ErrArg {
		t.Error(e)
	}
	if _, e := Open("s", -1, []byte{9}); e != api.ErrArg {
		t.Error(e)
	}
	if _, e := Seal("s", 1, []api.Span{{S: 1, From: 2, To: 1}}); e != api.ErrArg {
		t.Error(e)
	}
}

// signed has the right mark whatever stands ahead.
func signed(b ...byte) []byte {
	return append(slices.Clone(b), Mark("s", b)...)
}

func TestWrongTokens(t *testing.T) {
	token, _ := Seal("s", 3, sets[1])
	for i, x := range []struct {
		b []byte
		e api.Errno
	}{
		{[]byte{1}, api.ErrToken}, {token[:7], api.ErrToken}, {signed(), api.ErrToken}, {signed(1), api.ErrToken}, {signed(1, 3), api.ErrToken},
		{signed(2, 3, 0), api.ErrToken}, {signed(0, 3, 0), api.ErrToken}, {signed(1, 3, 0, 0), api.ErrToken}, {signed(1, 3, 1, 1, 0, 1), api.ErrToken},
		{signed(129, 0, 3, 0), api.ErrToken}, {signed(1, 131, 0, 0), api.ErrToken}, {signed(1, 4, 9), api.ErrToken}, {signed(1, 3, 2, 1, 1, 0, 1, 2, 0), api.ErrToken},
		{signed(1, 4, 0), api.ErrForeign}, {append([]byte{1, 4, 0}, 0, 0, 0, 0, 0, 0, 0, 0), api.ErrForeign},
		{append([]byte{1, 3, 0}, 0, 0, 0, 0, 0, 0, 0, 0), api.ErrForged}, {append(slices.Clone(token), 0), api.ErrToken}, {signed(1, 3, 0), 0},
	} {
		if l, e := Open("s", 3, x.b); l != nil || e != x.e {
			t.Error(i, l, e)
		}
	}
	if _, e := Open("s", 4, token); e != api.ErrForeign {
		t.Error(e)
	}
	if _, e := Open("t", 3, token); e != api.ErrForged {
		t.Error(e)
	}
	for i := range token {
		for bit := range 8 {
			turned := slices.Clone(token)
			turned[i] ^= 1 << bit
			if l, e := Open("s", 3, turned); l != nil || e != api.ErrToken && e != api.ErrForeign && e != api.ErrForged || i >= len(token)-8 && e != api.ErrForged {
				t.Error(i, bit, l, e)
			}
		}
	}
	for cut := 1; cut < len(token); cut++ {
		if l, e := Open("s", 3, token[:cut]); l != nil || e == 0 {
			t.Error(cut, l, e)
		}
	}
}

func TestWhatIsHandedInStays(t *testing.T) {
	b, _ := Seal("s", 3, sets[1])
	was := slices.Clone(b)
	in := append(make([]byte, 0, 99), b...)
	l, _ := Open("s", 3, in)
	l[0].S = 9
	m := append(make([]byte, 0, 99), 1, 2)
	Mark("s", m)
	if !bytes.Equal(in, was) || in[:len(b)+1][len(b)] != 0 || m[:3][2] != 0 || sets[1][0].S != 1 {
		t.Error("changed")
	}
}
