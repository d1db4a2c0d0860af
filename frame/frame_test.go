package frame_test

import (
	"bytes"
	"hash/crc32"
	"testing"

	"firth/api"
	. "firth/frame"
	"firth/num"
)

func put(t *testing.T, s string) []byte {
	t.Helper()
	b, e := Put([]byte(s))
	if e != 0 {
		t.Fatal(e)
	}
	return b
}

func TestSum(t *testing.T) {
	if Sum([]byte("123456789")) != 0xCBF43926 || Sum() != 0 || Sum(nil, []byte{}) != 0 {
		t.Error("examples")
	}
	all := []byte("some longer text\x00\xff\x80")
	for i := range all {
		if Sum(all[:i], nil, all[i:]) != crc32.ChecksumIEEE(all) {
			t.Error(i)
		}
	}
}

func TestPut(t *testing.T) {
	sum := crc32.ChecksumIEEE([]byte{0})
	want := []byte{0, byte(sum), byte(sum >> 8), byte(sum >> 16), byte(sum >> 24)}
	if got := put(t, ""); !bytes.Equal(got, want) {
		t.Error(got)
	}
	sum = crc32.ChecksumIEEE([]byte{3, 'x', 'y', 'z'})
	want = []byte{3, byte(sum), byte(sum >> 8), byte(sum >> 16), byte(sum >> 24), 'x', 'y', 'z'}
	if got := put(t, "xyz"); !bytes.Equal(got, want) {
		t.Error(got)
	}
	if b, e := Put(make([]byte, api.MaxFrame)); e != 0 || len(b) != api.MaxFrame+7 {
		t.Error(len(b), e)
	}
	if b, e := Put(make([]byte, api.MaxFrame+1)); e != api.ErrLong || b != nil {
		t.Error(len(b), e)
	}
}

func TestNext(t *testing.T) {
	one := put(t, "abc")
	in := append([]byte{7, 7}, append(bytes.Clone(one), 9)...)
	if body, end, e := Next(in, 2); string(body) != "abc" || end != 2+len(one) || e != 0 {
		t.Error(body, end, e)
	}
	spoilt := bytes.Clone(one)
	spoilt[len(spoilt)-1] ^= 1
	other := bytes.Clone(one)
	other[1] ^= 128
	big := append(num.PutNum(api.MaxFrame+1), 0, 0, 0, 0)
	full := append(num.PutNum(api.MaxFrame), 0, 0, 0, 0)
	for i, x := range []struct {
		b  []byte
		at int
		e  api.Errno
	}{
		{one, -1, api.ErrArg}, {one, len(one) + 1, api.ErrArg}, {one, len(one), api.ErrShort},
		{nil, 0, api.ErrShort}, {[]byte{128}, 0, api.ErrShort}, {[]byte{128, 0}, 0, api.ErrForm},
		{big, 0, api.ErrLong}, {full, 0, api.ErrShort}, {one[:len(one)-1], 0, api.ErrShort},
		{one[:3], 0, api.ErrShort}, {spoilt, 0, api.ErrSum}, {other, 0, api.ErrSum},
		{num.PutNum(1<<63 - 1), 0, api.ErrLong},
	} {
		if body, end, e := Next(x.b, x.at); body != nil || end != 0 || e != x.e {
			t.Error(i, body, end, e)
		}
	}
	// The length is a part of what is summed: another length with the same bytes is found out.
	wide := put(t, "ab\x00")
	wide[0] = 2
	if _, _, e := Next(wide[:len(wide)-1], 0); e != api.ErrSum {
		t.Error(e)
	}
}

func TestAll(t *testing.T) {
	texts := []string{"", "a", "bc", "", string(make([]byte, 200))}
	var b []byte
	ends := []int{0}
	for _, s := range texts {
		b = append(b, put(t, s)...)
		ends = append(ends, len(b))
	}
	for cut := range len(b) + 1 {
		whole := 0
		for whole+1 < len(ends) && ends[whole+1] <= cut {
			whole++
		}
		list, end, e := All(b[:cut])
		if len(list) != whole || end != ends[whole] || (e == 0) != (cut == ends[whole]) || e != 0 && e != api.ErrShort {
			t.Fatal(cut, len(list), end, e)
		}
		for i, body := range list {
			if string(body) != texts[i] {
				t.Error(cut, i)
			}
		}
	}
	one := put(t, "q")
	if list, end, e := All(append(bytes.Clone(one), 9)); len(list) != 1 || end != len(one) || e != api.ErrShort {
		t.Error(list, end, e)
	}
	bad := bytes.Clone(one)
	bad[1]++
	if list, end, e := All(append(bad, one...)); len(list) != 0 || end != 0 || e != api.ErrSum {
		t.Error(list, end, e)
	}
	if list, end, e := All([]byte{128, 0}); len(list) != 0 || end != 0 || e != api.ErrForm {
		t.Error(list, end, e)
	}
}

func TestWhatIsAnsweredIsNew(t *testing.T) {
	in := make([]byte, 2, 64)
	in[0] = 5
	b, _ := Put(in)
	in[0] = 6
	if body, _, _ := Next(b, 0); body[0] != 5 || !bytes.Equal(in[:64], append([]byte{6}, make([]byte, 63)...)) {
		t.Error("kept, or changed")
	}
	body, _, _ := Next(b, 0)
	list, _, _ := All(append(bytes.Clone(b), b...))
	b[len(b)-2] = 99
	_ = append(list[0], 77, 77, 77, 77, 77, 77)
	if body[0] != 5 || list[0][0] != 5 || list[1][0] != 5 {
		t.Error("shared")
	}
}
