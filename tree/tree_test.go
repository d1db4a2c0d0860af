package tree_test

import (
	"math/rand"
	"reflect"
	"slices"
	"strings"
	"testing"

	"firth/api"
	"firth/num"
	. "firth/tree"
	"firth/vers"
)

func ver(s int, n int64, past ...api.Span) api.Ver {
	return api.Ver{Dot: api.Dot{S: s, N: n}, Past: past, Val: "v"}
}

func rec(key string, l ...api.Ver) api.Rec { return api.Rec{Key: key, Vers: l} }

func make1(t *testing.T, list ...api.Rec) *Tree {
	t.Helper()
	tr, e := New(list...)
	if e != 0 {
		t.Fatal(e)
	}
	return tr
}

// bytesOf tells what a hash over hashes is made of.
func bytesOf(list ...uint64) []byte {
	var b []byte
	for _, h := range list {
		b = append(b, num.PutNum(int64(h>>32))...)
		b = append(b, num.PutNum(int64(h&0xffffffff))...)
	}
	return b
}

// alike tells keys whose places begin with so many digits of k's place, and k first.
func alike(k string, digits, count int) []string {
	list := []string{k}
	for i := int64(0); len(list) < count; i++ {
		key := "x" + num.Digits(i)
		if slices.Equal(Place(key)[:digits], Place(k)[:digits]) && (digits == 2 || Place(key)[1] != Place(k)[1]) {
			list = append(list, key)
		}
	}
	return list
}

func TestPlace(t *testing.T) {
	for _, key := range []string{"", "k", "\xff", strings.Repeat("x", 99)} {
		h := num.Hash([]byte(key))
		if !slices.Equal(Place(key), []int{int(h / (1 << 60)), int(h / (1 << 56) % 16)}) {
			t.Error(key, Place(key))
		}
	}
}

func TestEmpty(t *testing.T) {
	tr := make1(t)
	if tr.Hash() != 0 || tr.Hash(3) != 0 || tr.Hash(3, 4) != 0 || !slices.Equal(tr.Kids(), make([]uint64, 16)) || !slices.Equal(tr.Kids(15), make([]uint64, 16)) || len(tr.Recs()) != 0 {
		t.Error("not empty")
	}
}

func TestHashes(t *testing.T) {
	keys := alike("k", 2, 3)
	other := alike("k", 1, 2)[1]
	recs := []api.Rec{rec("k", ver(1, 300), ver(2, 1)), rec(keys[1], ver(3, 1)), rec(keys[2], ver(4, 1)), rec(other, ver(5, 1))}
	tr := make1(t, recs...)
	p := Place("k")
	in := slices.Clone(recs[:3])
	slices.SortFunc(in, func(a, b api.Rec) int { return strings.Compare(a.Key, b.Key) })
	var marks []uint64
	for _, r := range in {
		marks = append(marks, vers.Mark(r.Key, r.Vers))
	}
	leaf := num.Hash(bytesOf(marks...))
	kids := make([]uint64, 16)
	kids[p[1]] = leaf
	kids[Place(other)[1]] = num.Hash(bytesOf(vers.Mark(other, recs[3].Vers)))
	branch := num.Hash(bytesOf(kids...))
	roots := make([]uint64, 16)
	roots[p[0]] = branch
	for range 2 {
		if tr.Hash() != num.Hash(bytesOf(roots...)) || tr.Hash(p[0]) != branch || tr.Hash(p...) != leaf {
			t.Error("hashes")
		}
		if !slices.Equal(tr.Kids(), roots) || !slices.Equal(tr.Kids(p[0]), kids) {
			t.Error("kids")
		}
	}
	if !reflect.DeepEqual(tr.Recs(p...), in) || len(tr.Recs(p[0])) != 4 || len(tr.Recs()) != 4 || len(tr.Recs((p[0]+1)%16)) != 0 {
		t.Error("Recs")
	}
	all := tr.Recs()
	if !slices.IsSortedFunc(all, func(a, b api.Rec) int { return strings.Compare(a.Key, b.Key) }) {
		t.Error("not rising")
	}
}

func TestNoPath(t *testing.T) {
	tr := make1(t, rec("k", ver(1, 1)))
	p := Place("k")
	for _, path := range [][]int{{16}, {-1}, {p[0], 16}, {p[0], -1}, {p[0], p[1], 0}, {16, 0}} {
		if tr.Hash(path...) != 0 || tr.Kids(path...) != nil || tr.Recs(path...) != nil {
			t.Error(path)
		}
	}
	if tr.Kids(p...) != nil {
		t.Error("kids of a leaf")
	}
}

func TestSet(t *testing.T) {
	tr := make1(t, rec("k", ver(1, 1)))
	was := tr.Hash()
	if e := tr.Set(rec("k", ver(1, 2))); e != 0 || tr.Hash() == was {
		t.Error("the same hash")
	}
	for _, r := range []api.Rec{{}, rec("", ver(1, 1)), rec("k", ver(1, 1), ver(1, 1)), rec(strings.Repeat("k", 33))} {
		was := tr.Hash()
		if e := tr.Set(r); e != api.ErrArg || tr.Hash() != was {
			t.Error(r, e)
		}
		if tr, e := New(rec("l", ver(1, 1)), r); tr != nil || e != api.ErrArg {
			t.Error(r, e)
		}
	}
	if e := tr.Set(rec("k")); e != 0 || tr.Hash() != 0 || len(tr.Recs()) != 0 || tr.Hash(Place("k")...) != 0 {
		t.Error("not gone")
	}
	if e := tr.Set(rec("none")); e != 0 || tr.Hash() != 0 {
		t.Error(e)
	}
}

func TestDiffer(t *testing.T) {
	long := make([]uint64, 20)
	long[17] = 3
	long[15] = 1
	for _, x := range []struct {
		a, b []uint64
		want []int
	}{
		{[]uint64{1, 2, 3}, []uint64{1, 9}, []int{1, 2}}, {nil, nil, nil}, {[]uint64{0, 0}, nil, nil}, {nil, long, []int{15}}, {long, long, nil},
	} {
		if got := Differ(x.a, x.b); !slices.Equal(got, x.want) {
			t.Error(x, got)
		}
	}
	tr := make1(t, rec("k", ver(1, 1)))
	if got := Differ(tr.Kids(), make([]uint64, 16)); !slices.Equal(got, Place("k")[:1]) {
		t.Error(got)
	}
}

func TestHashesHangOnTheRecordsAlone(t *testing.T) {
	rnd := rand.New(rand.NewSource(6))
	for range 50 {
		var list []api.Rec
		for i := range 40 {
			list = append(list, rec("key"+num.Digits(int64(i)), ver(1, int64(i)+1)))
		}
		a := make1(t, list...)
		b := make1(t)
		for _, i := range rnd.Perm(60) {
			r := rec("key"+num.Digits(int64(i)), ver(2, 1))
			b.Set(r)
			if i%3 == 0 {
				b.Hash()
			}
		}
		for i := 40; i < 60; i++ {
			b.Set(rec("key" + num.Digits(int64(i))))
		}
		for _, i := range rnd.Perm(40) {
			b.Set(list[i])
		}
		if a.Hash() != b.Hash() || !slices.Equal(a.Kids(), b.Kids()) || !reflect.DeepEqual(a.Recs(), b.Recs()) {
			t.Fatal("not the same")
		}
		for d := range 16 {
			if !slices.Equal(a.Kids(d), b.Kids(d)) {
				t.Fatal(d)
			}
		}
	}
}

func TestNothingIsKept(t *testing.T) {
	r := rec("k", ver(1, 2, api.Span{S: 1, From: 1, To: 1}))
	tr := make1(t, r)
	was := tr.Hash()
	r.Vers[0].Dot.N = 9
	tr.Recs()[0].Vers[0].Past[0].To = 7
	tr.Kids()[0]++
	path := append(make([]int, 0, 9), Place("k")[0])
	tr.Kids(path...)
	tr.Recs(path...)
	if path[:2][1] != 0 {
		t.Error("the spare room is changed")
	}
	fresh := make1(t, tr.Recs()...)
	if fresh.Hash() != was || tr.Recs()[0].Vers[0].Past[0].To != 1 {
		t.Error("kept")
	}
}
