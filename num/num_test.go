package num_test

import (
	"bytes"
	"strconv"
	"strings"
	"testing"

	"firth/api"
	. "firth/num"
)

const most = 1<<63 - 1

func TestPutNum(t *testing.T) {
	for _, x := range []struct {
		n    int64
		want []byte
	}{
		{0, []byte{0}}, {1, []byte{1}}, {127, []byte{127}}, {128, []byte{128, 1}}, {300, []byte{172, 2}},
		{16383, []byte{255, 127}}, {16384, []byte{128, 128, 1}},
		{most, []byte{255, 255, 255, 255, 255, 255, 255, 255, 127}},
		{-1, []byte{0}}, {-1 << 63, []byte{0}},
	} {
		if got := PutNum(x.n); !bytes.Equal(got, x.want) {
			t.Errorf("PutNum(%d) = %v", x.n, got)
		}
	}
}

func TestNum(t *testing.T) {
	nine := []byte{255, 255, 255, 255, 255, 255, 255, 255, 127}
	for _, x := range []struct {
		b    []byte
		at   int
		n    int64
		next int
		e    api.Errno
	}{
		{[]byte{0}, 0, 0, 1, 0},
		{[]byte{9, 172, 2, 9}, 1, 300, 3, 0},
		{nine, 0, most, 9, 0},
		{nil, 0, 0, 0, api.ErrShort},
		{nil, -1, 0, 0, api.ErrArg},
		{nil, 1, 0, 0, api.ErrArg},
		{[]byte{1}, 2, 0, 0, api.ErrArg},
		{[]byte{1}, 1, 0, 0, api.ErrShort},
		{[]byte{1}, -1 << 63, 0, 0, api.ErrArg},
		{[]byte{1}, most, 0, 0, api.ErrArg},
		{[]byte{128}, 0, 0, 0, api.ErrShort},
		{[]byte{128, 0}, 0, 0, 0, api.ErrForm},
		{[]byte{128, 128, 0}, 0, 0, 0, api.ErrForm},
		{[]byte{255, 255, 255, 255, 255, 255, 255, 255, 128}, 0, 0, 0, api.ErrForm},
		{[]byte{255, 255, 255, 255, 255, 255, 255, 255, 128, 1}, 0, 0, 0, api.ErrForm},
		{[]byte{255, 255, 255, 255, 255, 255, 255, 255, 0}, 0, 0, 0, api.ErrForm},
		{[]byte{255, 255, 255, 255, 255, 255, 255, 255}, 0, 0, 0, api.ErrShort},
	} {
		if n, next, e := Num(x.b, x.at); n != x.n || next != x.next || e != x.e {
			t.Errorf("Num(%v, %d) = %d %d %d", x.b, x.at, n, next, e)
		}
	}
}

func TestNumOfPutNum(t *testing.T) {
	for shift := range 63 {
		for d := int64(-1); d <= 1; d++ {
			n := int64(1)<<shift + d
			b := append([]byte{200, 7}, PutNum(n)...)
			end := len(b)
			b = append(b, 255, 0)
			if got, next, e := Num(b, 2); got != n || next != end || e != 0 {
				t.Errorf("%d: %d %d %d", n, got, next, e)
			}
		}
	}
}

func TestBytesOfANumberAreTheOnlyOnes(t *testing.T) {
	for a := range 256 {
		for b := range 256 {
			for c := range 4 {
				in := []byte{byte(a), byte(b), byte(c)}
				if n, next, e := Num(in, 0); e == 0 && !bytes.Equal(PutNum(n), in[:next]) {
					t.Fatalf("%v is read as %d", in, n)
				}
			}
		}
	}
}

func TestText(t *testing.T) {
	if got := PutText("ab"); !bytes.Equal(got, []byte{2, 'a', 'b'}) {
		t.Error(got)
	}
	if got := PutText(""); !bytes.Equal(got, []byte{0}) {
		t.Error(got)
	}
	long := strings.Repeat("x", 300)
	for _, x := range []struct {
		b        []byte
		at, most int
		s        string
		next     int
		e        api.Errno
	}{
		{[]byte("\x02ab"), 0, 2, "ab", 3, 0},
		{[]byte("zz\x02abz"), 2, 9, "ab", 5, 0},
		{PutText(long), 0, 300, long, 302, 0},
		{PutText(long), 0, 299, "", 0, api.ErrLong},
		{[]byte("\x02a"), 0, 5, "", 0, api.ErrShort},
		{[]byte("\x02ab"), 0, 1, "", 0, api.ErrLong},
		{[]byte("\x02a"), 0, 1, "", 0, api.ErrLong},
		{[]byte("\x00"), 0, -4, "", 1, 0},
		{[]byte("\x01a"), 0, -4, "", 0, api.ErrLong},
		{nil, 1, 9, "", 0, api.ErrArg},
		{nil, 0, 9, "", 0, api.ErrShort},
		{[]byte{128, 0}, 0, 9, "", 0, api.ErrForm},
		{PutNum(most), 0, most, "", 0, api.ErrShort},
	} {
		if s, next, e := Text(x.b, x.at, x.most); s != x.s || next != x.next || e != x.e {
			t.Errorf("Text(%v, %d, %d) = %q %d %d", x.b, x.at, x.most, s, next, e)
		}
	}
}

func TestDigits(t *testing.T) {
	for _, n := range []int64{0, 1, 9, 10, 99, 100, 12345678901234, most, -1, -10, -most, -1 << 63} {
		if got, want := Digits(n), strconv.FormatInt(n, 10); got != want {
			t.Errorf("%q, not %q", got, want)
		}
	}
}

func TestRead(t *testing.T) {
	for _, n := range []int64{0, 1, 9, 10, 90, 4611686018427387904, most - 1, most} {
		if got, e := Read(Digits(n)); got != n || e != 0 {
			t.Error(n, got, e)
		}
	}
	for _, s := range []string{"", "0", "00", "07", "-1", "+1", " 1", "1 ", "1a", "a", "/", ":", "9223372036854775808", "9223372036854775810", "99999999999999999999", "18446744073709551617", "\x00"} {
		if n, e := Read(s); s != "0" && (n != 0 || e != api.ErrForm) {
			t.Errorf("%q: %d %d", s, n, e)
		}
	}
}

func TestHash(t *testing.T) {
	// Worked out from the words of P1.4. The chapter's example (17280346270528514342) is another
	// number, which only a second multiplication would give that the words don't name.
	if h := Hash(nil); h != 17058014651485797458 {
		t.Error(h)
	}
	// FNV-1a of "a" is 0xaf63dc4c8601ec8c; the end is worked out by hand from there.
	h := uint64(0xaf63dc4c8601ec8c)
	h ^= h / (1 << 33)
	h *= 0xff51afd7ed558ccd
	h ^= h / (1 << 33)
	if got := Hash([]byte("a")); got != h {
		t.Error(got, h)
	}
	if Hash([]byte{0}) == Hash(nil) || Hash([]byte("ab")) == Hash([]byte("ba")) {
		t.Error("alike")
	}
}

func TestNothingIsKept(t *testing.T) {
	in := append(make([]byte, 0, 64), PutText("ab")...)
	s, _, _ := Text(in, 0, 9)
	in[1] = 'x'
	if s != "ab" || in[:4][3] != 0 {
		t.Error("shared")
	}
	one := PutNum(300)
	_ = append(one[:1], 9)
	if !bytes.Equal(PutNum(300), []byte{172, 2}) {
		t.Error("kept")
	}
}
