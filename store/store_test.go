package store_test

import (
	"math/rand"
	"reflect"
	"slices"
	"strings"
	"testing"

	"firth/api"
	"firth/disk"
	"firth/frame"
	. "firth/store"
)

func ver(s int, n int64, past ...api.Span) api.Ver {
	return api.Ver{Dot: api.Dot{S: s, N: n}, Past: past, Val: "v"}
}

func gone(s int, n int64) api.Ver { return api.Ver{Dot: api.Dot{S: s, N: n}, Gone: true} }

func rec(key string, l ...api.Ver) api.Rec { return api.Rec{Key: key, Vers: l} }

func behind(s int, from, to int64) api.Span { return api.Span{S: s, From: from, To: to} }

func open(t *testing.T, d *disk.Disk) *Store {
	t.Helper()
	s, e := Open(d, "d", 64)
	if e != 0 {
		t.Fatal(e)
	}
	return s
}

func put(t *testing.T, s *Store, list ...api.Rec) {
	t.Helper()
	for _, r := range list {
		if e := s.Put(r); e != 0 {
			t.Fatal(r, e)
		}
	}
}

// want holds the store against records, and so what is told of it when it is opened anew.
func want(t *testing.T, s *Store, d *disk.Disk, waste int, list ...api.Rec) {
	t.Helper()
	for _, s := range []*Store{s, open(t, d)} {
		got := s.Recs()
		if len(got)+len(list) > 0 && !reflect.DeepEqual(got, list) {
			t.Error(got)
		}
		var keys []string
		for _, r := range list {
			keys = append(keys, r.Key)
			if !reflect.DeepEqual(s.Get(r.Key), r.Vers) {
				t.Error(r.Key, s.Get(r.Key))
			}
		}
		if !slices.Equal(s.Keys(), keys) || s.Waste() != waste {
			t.Error(s.Keys(), s.Waste())
		}
	}
}

func TestExample(t *testing.T) {
	d := disk.New(10000)
	s := open(t, d)
	second, end := ver(1, 2, behind(1, 1, 1)), gone(2, 1)
	put(t, s, rec("k", ver(1, 1)), rec("k", second), rec("l", end))
	want(t, s, d, 1, rec("k", second), rec("l", end))
	if e := s.Trim([]int64{0, 0}); e != 0 {
		t.Error(e)
	}
	want(t, s, d, 0, rec("k", second), rec("l", end))
	if e := s.Trim([]int64{9, 1}); e != 0 {
		t.Error(e)
	}
	want(t, s, d, 0, rec("k", second))
	if b, _ := d.Read("d.m"); len(b) != 12 {
		t.Error("two rewrites")
	}
}

func TestPut(t *testing.T) {
	d := disk.New(10000)
	s := open(t, d)
	if s.Get("k") != nil || len(s.Keys()) != 0 || len(s.Recs()) != 0 || s.Waste() != 0 {
		t.Error("not empty")
	}
	put(t, s, rec("b", ver(1, 1)), rec("\xff", ver(1, 2)), rec("a", ver(1, 3)), rec("B", ver(1, 4)))
	if d.Loose() != 0 {
		t.Error("no Sync")
	}
	put(t, s, rec("b"), rec("none"))
	want(t, s, d, 3, rec("B", ver(1, 4)), rec("a", ver(1, 3)), rec("\xff", ver(1, 2)))
	for _, r := range []api.Rec{{}, rec("", ver(1, 1)), rec(strings.Repeat("k", 33)), rec("k", ver(2, 1), ver(1, 1)), rec("k", api.Ver{})} {
		if e := s.Put(r); e != api.ErrArg {
			t.Error(r, e)
		}
	}
	want(t, s, d, 3, rec("B", ver(1, 4)), rec("a", ver(1, 3)), rec("\xff", ver(1, 2)))
}

func TestErrors(t *testing.T) {
	d := disk.New(20)
	s := open(t, d)
	put(t, s, rec("k", ver(1, 1)))
	if e := s.Put(rec("longer", ver(1, 2))); e != api.ErrFull {
		t.Error(e)
	}
	want(t, s, d, 0, rec("k", ver(1, 1)))
	if e := s.Trim([]int64{5}); e != api.ErrFull {
		t.Error(e)
	}
	want(t, s, d, 0, rec("k", ver(1, 1)))
	var big []api.Ver
	for i := range 500 {
		v := ver(1, int64(i)+1)
		v.Val = strings.Repeat("x", 256)
		for j := range 1000 {
			v.Past = append(v.Past, behind(2, int64(3*j)+1000000, int64(3*j)+1000000))
		}
		big = append(big, v)
	}
	if e := s.Put(rec("k", big...)); e != api.ErrLong {
		t.Error(e)
	}
	want(t, s, d, 0, rec("k", ver(1, 1)))
	if s, e := Open(d, "a.b", 64); s != nil || e != api.ErrArg {
		t.Error(e)
	}
	// One that is gone stays, if the Trim that was to leave it out fails.
	d = disk.New(24)
	s = open(t, d)
	put(t, s, rec("k", gone(1, 1)), rec("l", gone(1, 2)))
	if e := s.Trim([]int64{1}); e != api.ErrFull {
		t.Error(e)
	}
	want(t, s, d, 0, rec("k", gone(1, 1)), rec("l", gone(1, 2)))
}

func TestARecordThatIsNone(t *testing.T) {
	d := disk.New(1000)
	b, _ := frame.Put([]byte{1, 'k', 0, 0})
	d.Append("d.0.1", append(b, 9))
	if s, e := Open(d, "d", 64); s != nil || e != api.ErrForm {
		t.Error(e)
	}
	if got, _ := d.Read("d.0.1"); len(got) != len(b) {
		t.Error("the log has been opened then")
	}
	d.Append("d.m", []byte{1})
	d.Append("e.m", b)
	if _, e := Open(d, "e", 64); e != api.ErrForm {
		t.Error(e)
	}
}

func TestTrim(t *testing.T) {
	all := []api.Rec{rec("a", gone(1, 3)), rec("b", gone(1, 4)), rec("c", ver(1, 1), gone(2, 1)), rec("d", gone(3, 1)), rec("e", ver(1, 2))}
	for _, x := range []struct {
		floor []int64
		keys  string
	}{{nil, "abcde"}, {[]int64{3}, "bcde"}, {[]int64{9, 9}, "cde"}, {[]int64{9, 9, 9}, "ce"}, {[]int64{-1, 1 << 62, 1}, "abce"}} {
		d := disk.New(10000)
		s := open(t, d)
		put(t, s, rec("z", ver(1, 9)), rec("z"))
		put(t, s, all...)
		if e := s.Trim(x.floor); e != 0 {
			t.Error(e)
		}
		var left []api.Rec
		for _, r := range all {
			if strings.Contains(x.keys, r.Key) {
				left = append(left, r)
			}
		}
		want(t, s, d, 0, left...)
	}
}

func TestCrashes(t *testing.T) {
	rnd := rand.New(rand.NewSource(4))
	for range 100 {
		d := disk.New(1 << 20)
		s := open(t, d)
		model := map[string]int64{}
		for n := int64(1); n < 30; n++ {
			key := string(rune('a' + rnd.Intn(4)))
			switch rnd.Intn(6) {
			case 0:
				put(t, s, rec(key))
				delete(model, key)
			case 1:
				s.Trim(nil)
			case 2:
				d.Crash(rnd.Intn(3), rnd.Intn(9))
				s = open(t, d)
			default:
				put(t, s, rec(key, ver(1, n)))
				model[key] = n
			}
			if len(s.Keys()) != len(model) {
				t.Fatal(s.Keys(), model)
			}
			for key, n := range model {
				if l := s.Get(key); len(l) != 1 || l[0].Dot.N != n {
					t.Fatal(key, l)
				}
			}
		}
	}
	// One whose Put was cut off: as it was ahead of it, or behind it.
	for keep := range 3 {
		for torn := range 12 {
			d := disk.New(10000)
			s := open(t, d)
			put(t, s, rec("k", ver(1, 1)))
			b, _ := frame.Put([]byte{1, 'k', 1, 1, 2, 0, 1})
			d.Append("d.0.1", b)
			d.Crash(keep, torn)
			got := open(t, d).Get("k")
			whole := keep > 0 || torn == len(b)
			if len(got) != 1 || got[0].Gone != whole {
				t.Error(keep, torn, got)
			}
		}
	}
}

func TestNothingIsKept(t *testing.T) {
	d := disk.New(10000)
	s := open(t, d)
	r := rec("k", ver(1, 2, behind(1, 1, 1)))
	put(t, s, r)
	r.Vers[0].Past[0].To = 9
	s.Get("k")[0].Past[0].To = 8
	s.Recs()[0].Vers[0].Val = "w"
	want(t, s, d, 0, rec("k", ver(1, 2, behind(1, 1, 1))))
}
