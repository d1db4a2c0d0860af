package queue_test

import (
	"bytes"
	"math/rand"
	"reflect"
	"slices"
	"strings"
	"testing"

	"firth/api"
	"firth/disk"
	"firth/frame"
	"firth/num"
	. "firth/queue"
	"firth/seglog"
	"firth/vers"
)

func sp(s int, from, to int64) api.Span { return api.Span{S: s, From: from, To: to} }

func ver(s int, n int64, past ...api.Span) api.Ver {
	return api.Ver{Dot: api.Dot{S: s, N: n}, Past: past, Val: "v"}
}

func rec(key string, l ...api.Ver) api.Rec { return api.Rec{Key: key, Vers: l} }

func conf() Conf {
	return Conf{Self: 1, Sites: 3, Links: []int{2, 3}, Cap: 2, Members: []int{1, 4}}
}

func open(t *testing.T, d *disk.Disk, c Conf) *Queue {
	t.Helper()
	q, e := Open(d, 200, c)
	if e != 0 {
		t.Fatal(e)
	}
	return q
}

func ok(t *testing.T, errs ...api.Errno) {
	t.Helper()
	for i, e := range errs {
		if e != 0 {
			t.Fatal(i, e)
		}
	}
}

type seen struct {
	Applied, Members, Gaps []int64
	Under                  string
	Next                   [4][]Entry
	Len                    int
}

func wide(l []int) []int64 {
	var out []int64
	for _, n := range l {
		out = append(out, int64(n))
	}
	return out
}

// look tells all that a queue tells.
func look(q *Queue) seen {
	s := seen{Applied: q.Applied(), Members: wide(q.Members()), Gaps: wide(q.Gaps()), Len: q.Len()}
	if r, there := q.Under(); there {
		s.Under = r.Key + num.Digits(r.Vers[0].Dot.N)
	}
	for sink := range s.Next {
		s.Next[sink] = q.Next(sink, 99)
		for i := range s.Next[sink] {
			e := &s.Next[sink][i]
			if len(e.Rec.Vers[0].Past) == 0 {
				e.Rec.Vers[0].Past = nil
			}
			if len(e.Route) == 0 {
				e.Route = nil
			}
		}
	}
	return s
}

// records tells what the log has.
func records(t *testing.T, d *disk.Disk) [][]byte {
	t.Helper()
	_, list, e := seglog.Open(d, "g", 200)
	if e != 0 {
		t.Fatal(e)
	}
	return list
}

// logged opens a queue whose log has these records.
func logged(c Conf, list ...[]byte) (*Queue, api.Errno) {
	d := disk.New(1 << 20)
	l, _, _ := seglog.Open(d, "g", 200)
	for _, b := range list {
		l.Append(b)
	}
	return Open(d, 200, c)
}

func do(t *testing.T, q *Queue, key string, past ...api.Span) {
	t.Helper()
	v, e := q.Issue(key, past, false, "v")
	ok(t, e, q.Did(rec(key, v), []int{1}))
}

func TestExample(t *testing.T) {
	d := disk.New(10000)
	q := open(t, d, Conf{Self: 1, Sites: 2, Links: []int{2}, Cap: 1, Members: []int{1}})
	v, e := q.Issue("k", nil, false, "v")
	if e != 0 || !vers.Same([]api.Ver{v}, []api.Ver{ver(1, 1)}) {
		t.Error(v, e)
	}
	if v, e := q.Issue("k", nil, false, "v"); e != api.ErrBusy || v.Dot.S != 0 {
		t.Error(v, e)
	}
	ok(t, q.Did(rec("k", v), []int{1}))
	if l := q.Next(2, 9); !slices.Equal(q.Applied(), []int64{1, 0}) || len(l) != 1 || l[0].Seq != 1 || !slices.Equal(l[0].Route, []int{1}) {
		t.Error(q.Applied(), l)
	}
	do(t, q, "k", sp(1, 1, 1))
	if !slices.Equal(q.Gaps(), []int{2}) || q.Len() != 1 {
		t.Error(q.Gaps())
	}
	if q.Ack(2, 1) || !q.Ack(2, 2) || q.Ack(2, 2) || q.Len() != 0 {
		t.Error("Ack")
	}
	ok(t, q.Clear(2), q.Clear(2), q.Clear(77))
	if len(q.Gaps()) != 0 {
		t.Error(q.Gaps())
	}
	if !reflect.DeepEqual(look(open(t, d, Conf{Self: 1, Sites: 2, Links: []int{2}, Cap: 1, Members: []int{1}})), look(q)) {
		t.Error("another state")
	}
}

func TestConf(t *testing.T) {
	good := []func(c *Conf){
		func(c *Conf) {}, func(c *Conf) { c.Links = nil }, func(c *Conf) { c.Cap = 65536 }, func(c *Conf) { c.Base = api.MaxCount },
		func(c *Conf) { *c = Conf{Self: 16, Sites: 16, Links: []int{1, 15}, Cap: 1, Members: []int{8}} },
	}
	for i, change := range good {
		c := conf()
		change(&c)
		q := open(t, disk.New(100), c)
		if q.Applied()[0] != c.Base || len(q.Applied()) != c.Sites || q.Len() != 0 || len(q.Gaps()) != 0 || !slices.Equal(q.Members(), c.Members) {
			t.Error(i)
		}
		if r, there := q.Under(); there || r.Key != "" {
			t.Error(i)
		}
	}
	for i, change := range []func(c *Conf){
		func(c *Conf) { c.Sites = 17; c.Self = 17; c.Links = nil }, func(c *Conf) { c.Sites = 0 }, func(c *Conf) { c.Self = 0 }, func(c *Conf) { c.Self = 4 },
		func(c *Conf) { c.Links = []int{1} }, func(c *Conf) { c.Links = []int{3, 2} }, func(c *Conf) { c.Links = []int{2, 2} }, func(c *Conf) { c.Links = []int{4} }, func(c *Conf) { c.Links = []int{0} },
		func(c *Conf) { c.Cap = 0 }, func(c *Conf) { c.Cap = 65537 }, func(c *Conf) { c.Base = -1 }, func(c *Conf) { c.Base = api.MaxCount + 1 },
		func(c *Conf) { c.Members = nil }, func(c *Conf) { c.Members = []int{2, 1} },
	} {
		c := conf()
		change(&c)
		d := disk.New(100)
		d.Append("g.m", []byte{9})
		if q, e := Open(d, 200, c); q != nil || e != api.ErrArg || d.Used() != 1 {
			t.Error(i, e)
		}
	}
	d := disk.New(100)
	b, _ := frame.Put([]byte{0})
	d.Append("g.m", b)
	if _, e := Open(d, 200, conf()); e != api.ErrForm {
		t.Error(e)
	}
}

func TestIssue(t *testing.T) {
	d := disk.New(1000)
	q := open(t, d, conf())
	long := strings.Repeat("k", 33)
	for i, try := range []func() (api.Ver, api.Errno){
		func() (api.Ver, api.Errno) { return q.Issue("", nil, false, "") },
		func() (api.Ver, api.Errno) { return q.Issue(long, nil, false, "") },
		func() (api.Ver, api.Errno) { return q.Issue("k", nil, true, "v") },
		func() (api.Ver, api.Errno) { return q.Issue("k", nil, false, strings.Repeat("v", 257)) },
		func() (api.Ver, api.Errno) { return q.Issue("k", []api.Span{sp(2, 1, 1)}, false, "v") },
		func() (api.Ver, api.Errno) { return q.Issue("k", []api.Span{sp(1, 1, 1)}, false, "v") },
		func() (api.Ver, api.Errno) { return q.Issue("k", []api.Span{sp(4, 1, 1)}, false, "v") },
		func() (api.Ver, api.Errno) { return q.Issue("k", []api.Span{sp(2, 2, 1)}, false, "v") },
	} {
		if v, e := try(); e != api.ErrArg || !reflect.DeepEqual(v, api.Ver{}) || d.Used() != 0 {
			t.Error(i, v, e)
		}
	}
	v, e := q.Issue("k", nil, true, "")
	r, there := q.Under()
	if e != 0 || !v.Gone || !there || r.Key != "k" || !vers.Same(r.Vers, []api.Ver{v}) || d.Loose() != 0 {
		t.Error(v, e, r, there)
	}
	if _, e := q.Issue("", nil, false, ""); e != api.ErrBusy {
		t.Error(e)
	}
	if !bytes.Equal(records(t, d)[0], []byte{1, 1, 'k', 1, 1, 1, 0, 1}) {
		t.Error(records(t, d))
	}
	if !reflect.DeepEqual(look(open(t, d, conf())), look(q)) {
		t.Error("another state")
	}
	c := conf()
	c.Base = api.MaxCount
	q = open(t, disk.New(1000), c)
	if _, e := q.Issue("", nil, false, "v"); e != api.ErrCount {
		t.Error(e)
	}
	q = open(t, disk.New(5), conf())
	if _, e := q.Issue("k", nil, false, "v"); e != api.ErrFull {
		t.Error(e)
	}
	if _, there := q.Under(); there {
		t.Error("under way")
	}
}

func TestDid(t *testing.T) {
	d := disk.New(10000)
	q := open(t, d, conf())
	v, _ := q.Issue("k", nil, false, "v")
	other := v
	other.Val = "w"
	was := look(q)
	for i, x := range []struct {
		r     api.Rec
		route []int
	}{
		{rec("l", v), []int{1}}, {rec("k", other), []int{1}}, {rec("k"), nil}, {rec("k", v, ver(2, 1)), nil}, {rec("", v), nil},
		{rec("k", v), []int{1, 1}}, {rec("k", v), []int{0}}, {rec("k", v), []int{4}}, {rec("k", ver(1, 2)), nil},
		{rec("k", ver(2, 2)), nil}, {rec("k", ver(4, 1)), nil}, {rec("k", ver(2, 1, sp(3, 1, 1))), nil}, {rec("k", ver(2, 1, sp(1, 1, 1))), nil},
	} {
		if e := q.Did(x.r, x.route); e != api.ErrArg || !reflect.DeepEqual(look(q), was) {
			t.Error(i, e)
		}
	}
	ok(t, q.Did(rec("m", ver(2, 1)), []int{2}), q.Did(rec("k", v), []int{1}), q.Did(rec("n", ver(3, 1, sp(1, 1, 1))), []int{3, 2}))
	if e := q.Did(rec("k", ver(1, 2)), nil); e != api.ErrArg {
		t.Error("none is under way", e)
	}
	s := look(q)
	if !slices.Equal(s.Applied, []int64{1, 1, 1}) || s.Under != "" || s.Len != 2 || len(s.Gaps) != 0 {
		t.Error(s)
	}
	if l := s.Next[3]; len(l) != 2 || l[0].Seq != 1 || l[0].Rec.Key != "m" || l[1].Seq != 2 || !slices.Equal(l[1].Route, []int{1}) {
		t.Error(l)
	}
	if l := s.Next[2]; len(l) != 1 || l[0].Seq != 2 {
		t.Error(l)
	}
	// The third one had no sink, but used a number; the fourth one drops the first.
	ok(t, q.Did(rec("m", ver(2, 2)), nil))
	s = look(q)
	if s.Len != 2 || !slices.Equal(s.Gaps, []int64{3}) || s.Next[2][1].Seq != 4 || s.Next[3][0].Seq != 2 {
		t.Error(s)
	}
	if got := records(t, d)[1]; !bytes.Equal(got, []byte{2, 1, 2, 1, 'm', 1, 2, 1, 0, 0, 1, 'v'}) {
		t.Error(got)
	}
	if !reflect.DeepEqual(look(open(t, d, conf())), s) {
		t.Error("another state")
	}
}

func TestNextAndAck(t *testing.T) {
	d := disk.New(10000)
	q := open(t, d, conf())
	do(t, q, "a")
	do(t, q, "b")
	for n, want := range map[int]int{-1: 0, 0: 0, 1: 1, 2: 2, 9: 2} {
		if len(q.Next(2, n)) != want {
			t.Error(n)
		}
	}
	if len(q.Next(1, 9)) != 0 || len(q.Next(77, 9)) != 0 || q.Next(2, 1)[0].Rec.Key != "a" {
		t.Error("Next")
	}
	if q.Ack(1, 1) || q.Ack(2, 0) || q.Ack(2, 3) || q.Ack(2, -1) || !q.Ack(2, 1) || q.Ack(2, 1) || d.Loose() != 1 {
		t.Error("Ack", d.Loose())
	}
	if q.Len() != 2 || q.Next(2, 9)[0].Seq != 2 || q.Next(3, 9)[0].Seq != 1 {
		t.Error("one sink wants it no more")
	}
	if !q.Ack(3, 1) || q.Len() != 1 {
		t.Error("nobody wants it")
	}
	d.Crash(1, 3)
	q = open(t, d, conf())
	if q.Len() != 2 || len(q.Next(2, 9)) != 1 || len(q.Next(3, 9)) != 2 {
		t.Error("the first Ack was kept")
	}
	full := disk.New(40)
	q = open(t, full, conf())
	do(t, q, "a")
	if full.Append("x", make([]byte, 40-full.Used())); q.Ack(2, 1) || q.Len() != 1 || len(q.Next(2, 9)) != 1 {
		t.Error("the record wasn't appended")
	}
}

func TestJumpAndMembers(t *testing.T) {
	d := disk.New(10000)
	q := open(t, d, conf())
	ok(t, q.Jump([]int64{0, 5, 2}), q.SetMembers([]int{2, 3}))
	for _, vec := range [][]int64{nil, {1, 2}, {1, 2, 3, 4}, {-1, 0, 0}, {api.MaxCount + 1, 0, 0}} {
		if e := q.Jump(vec); e != api.ErrArg {
			t.Error(vec, e)
		}
	}
	for _, list := range [][]int{nil, {0}, {2, 1}, {9}} {
		if e := q.SetMembers(list); e != api.ErrArg {
			t.Error(list, e)
		}
	}
	q.Issue("k", []api.Span{sp(2, 1, 5)}, false, "v")
	ok(t, q.Jump([]int64{0, 1, 3}))
	if _, there := q.Under(); !there || !slices.Equal(q.Applied(), []int64{0, 5, 3}) {
		t.Error(q.Applied())
	}
	ok(t, q.Jump([]int64{1, 0, 0}))
	if _, there := q.Under(); there || !slices.Equal(q.Applied(), []int64{1, 5, 3}) || d.Loose() != 0 {
		t.Error(q.Applied())
	}
	if !reflect.DeepEqual(look(open(t, d, conf())), look(q)) || !slices.Equal(open(t, d, conf()).Members(), []int{2, 3}) {
		t.Error("another state")
	}
	for i, want := range [][]byte{{3, 3, 0, 5, 2}, {6, 2, 2, 3}} {
		if got := records(t, d)[i]; !bytes.Equal(got, want) {
			t.Error(got)
		}
	}
	full := disk.New(3)
	q = open(t, full, conf())
	if q.Jump([]int64{1, 1, 1}) != api.ErrFull || q.SetMembers([]int{2}) != api.ErrFull || q.Did(rec("k", ver(2, 1)), nil) != api.ErrFull || !reflect.DeepEqual(look(q), look(open(t, disk.New(0), conf()))) {
		t.Error("changed beside an error")
	}
}

var (
	recK = []byte{1, 'k', 1, 1, 1, 0, 0, 1, 'v'}
	recB = []byte{1, 'k', 1, 2, 1, 0, 0, 1, 'v'}
)

func cat(parts ...[]byte) []byte { return bytes.Join(parts, nil) }

func bigNum(head []byte, n int64, rest ...[]byte) []byte {
	return cat(head, num.PutNum(n), cat(rest...))
}

func TestLogsThatMayBe(t *testing.T) {
	for i, list := range [][][]byte{
		{}, {cat([]byte{1}, recK), cat([]byte{2, 1, 1}, recK)}, {{3, 3, 1, 2, 3}}, {{4, 2, 9}}, {{5, 3}}, {{6, 1, 8}}, {{7, 1}}, {{7, 1}, {7, 1}},
		{bigNum([]byte{7}, api.MaxCount+1)}, {{9, 2}, {9, 2}}, {cat([]byte{8, 5, 2, 2, 3, 1, 1}, recB), cat([]byte{8, 6, 1, 2, 0}, recB)},
		{bigNum([]byte{7}, api.MaxCount), cat([]byte{2, 0}, recB)}, {bigNum([]byte{8}, api.MaxCount, []byte{1, 2, 0}, recB)},
	} {
		if _, e := logged(conf(), list...); e != 0 {
			t.Error(i, e)
		}
	}
	q, _ := logged(conf(), cat([]byte{8, 5, 1, 3, 1, 1}, recB), []byte{9, 2}, []byte{7, 9}, cat([]byte{2, 0}, recB))
	if l := q.Next(3, 9); len(l) != 2 || l[0].Seq != 5 || l[1].Seq != 9 || !slices.Equal(l[0].Route, []int{1}) || !slices.Equal(q.Gaps(), []int{2}) || len(q.Next(2, 9)) != 1 {
		t.Error(l)
	}
	// Cap holds where something is done; the log may have more entries than that.
	q, _ = logged(conf(), cat([]byte{8, 1, 1, 2, 0}, recB), cat([]byte{8, 2, 1, 2, 0}, recB), cat([]byte{8, 3, 1, 3, 0}, recB))
	if q.Len() != 3 || len(q.Gaps()) != 0 {
		t.Error(q.Len())
	}
}

func TestLogsThatMayNotBe(t *testing.T) {
	issued := cat([]byte{1}, recK)
	for i, list := range [][][]byte{
		{{}}, {{0}}, {{10}}, {{1}}, {{128, 0}}, {issued[:3]}, {cat(issued, []byte{0})}, {cat([]byte{1}, recB)}, {issued, issued},
		{{1, 1, 'k', 0}}, {{1, 1, 'k', 1, 1, 2, 0, 1}}, {{1, 1, 'k', 1, 1, 1, 1, 2, 1, 0, 1}},
		{cat([]byte{2, 0}, recK)}, {cat([]byte{2, 2, 2, 2}, recB)}, {cat([]byte{2, 1, 4}, recB)}, {cat([]byte{2, 1, 0}, recB)}, {{2, 0, 1, 'k', 1, 2, 2, 0, 1}},
		{issued, {2, 0, 1, 'k', 1, 1, 1, 0, 1}}, {{2, 0, 1, 'k', 1, 4, 1, 0, 1}}, {bigNum([]byte{7}, api.MaxCount+1), cat([]byte{2, 0}, recB)},
		{{3, 2, 1, 2}}, {{3, 3, 1, 2}}, {{3, 3, 1, 2, 3, 0}}, {bigNum([]byte{3, 3, 0, 0}, api.MaxCount+1)},
		{{4, 1, 1}}, {{4, 2, 0}}, {{4, 2}}, {{4, 2, 1, 1}}, {{5, 1}}, {{5, 0}}, {{5}}, {{6, 0}}, {{6, 2, 2, 1}}, {{6, 1, 9}},
		{{7, 0}}, {{7, 5}, {7, 4}}, {bigNum([]byte{7}, api.MaxCount+2)}, {{9, 1}}, {{9, 4}},
		{cat([]byte{8, 0, 1, 2, 0}, recB)}, {cat([]byte{8, 1, 1, 1, 0}, recB)}, {cat([]byte{8, 1, 1, 4, 0}, recB)}, {cat([]byte{8, 1, 1, 2, 2, 3, 3}, recB)}, {{8, 1, 1, 2, 0, 1, 'k', 0}},
		{cat([]byte{8, 3, 1, 2, 0}, recB), cat([]byte{8, 3, 1, 2, 0}, recB)}, {bigNum([]byte{8}, api.MaxCount+1, []byte{1, 2, 0}, recB)},
		{{255, 255, 255, 255, 255, 255, 255, 255, 127}}, {{3, 255, 255, 255, 255, 255, 255, 255, 255, 127}},
	} {
		if q, e := logged(conf(), list...); q != nil || e != api.ErrForm {
			t.Error(i, e)
		}
	}
}

func TestTrim(t *testing.T) {
	d := disk.New(10000)
	q := open(t, d, conf())
	do(t, q, "a")
	do(t, q, "b")
	do(t, q, "c")
	q.Ack(3, 2)
	q.Issue("d", nil, false, "v")
	q.SetMembers([]int{2, 5})
	was := look(q)
	ok(t, q.Trim())
	version := func(n byte) []byte { return []byte{1, 1, n, 0, 0, 1, 'v'} }
	want := [][]byte{
		{3, 3, 3, 0, 0}, {6, 2, 2, 5}, {7, 4},
		cat([]byte{8, 2, 1, 2, 1, 1, 1, 'b'}, version(2)), cat([]byte{8, 3, 2, 2, 3, 1, 1, 1, 'c'}, version(3)),
		{9, 2}, {9, 3}, cat([]byte{1, 1, 'd'}, version(4)),
	}
	if got := records(t, d); !reflect.DeepEqual(got, want) {
		t.Error(got)
	}
	if !reflect.DeepEqual(look(q), was) || !reflect.DeepEqual(look(open(t, d, conf())), was) {
		t.Error("another state")
	}
	full := disk.New(110)
	q = open(t, full, conf())
	do(t, q, "a")
	was = look(q)
	if full.Append("x", make([]byte, 110-full.Used())); q.Trim() != api.ErrFull || !reflect.DeepEqual(look(q), was) {
		t.Error("changed beside an error")
	}
}

func TestWhatLasts(t *testing.T) {
	rnd := rand.New(rand.NewSource(11))
	for range 150 {
		d := disk.New(1 << 20)
		q := open(t, d, conf())
		far := int64(0)
		issued := map[int64]int{}
		last := q.Applied()
		for range 40 {
			switch rnd.Intn(8) {
			case 0, 1:
				if v, e := q.Issue("k", nil, false, "v"); e == 0 {
					if issued[v.Dot.N]++; issued[v.Dot.N] > 1 {
						t.Fatal("issued twice", v.Dot)
					}
				}
			case 2, 3:
				if r, there := q.Under(); there {
					ok(t, q.Did(r, []int{1}))
				}
			case 4:
				far++
				ok(t, q.Did(rec("f", ver(2, far)), []int{2}))
			case 5:
				for _, e := range q.Next(2+rnd.Intn(2), 1) {
					q.Ack(2+rnd.Intn(2), e.Seq)
				}
			case 6:
				ok(t, q.Trim())
			case 7:
				was, loose := look(q), d.Loose()
				d.Crash(rnd.Intn(loose+1), rnd.Intn(4))
				q = open(t, d, conf())
				if loose == 0 && !reflect.DeepEqual(look(q), was) {
					t.Fatal("another state")
				}
				if !slices.Equal(q.Applied(), was.Applied) || !slices.Equal(wide(q.Gaps()), was.Gaps) {
					t.Fatal("more than Acks were lost")
				}
			}
			now := q.Applied()
			for i := range now {
				if now[i] < last[i] {
					t.Fatal("fell")
				}
			}
			last = now
			if !reflect.DeepEqual(look(open(t, d, conf())), look(q)) {
				t.Fatal("another state")
			}
		}
	}
}

func TestNothingIsKept(t *testing.T) {
	d := disk.New(10000)
	c := conf()
	q := open(t, d, c)
	c.Links[0], c.Members[0] = 9, 9
	if !slices.Equal(q.Members(), []int{1, 4}) {
		t.Error("kept")
	}
	ok(t, q.Jump([]int64{0, 9, 0}))
	past := []api.Span{sp(2, 1, 1)}
	v, _ := q.Issue("k", past, false, "v")
	past[0].To = 5
	if v.Past[0].To != 1 {
		t.Error("shared")
	}
	v.Past[0].To = 6
	r, _ := q.Under()
	r.Vers[0].Past[0].To = 7
	if r, _ = q.Under(); r.Vers[0].Past[0].To != 1 {
		t.Error("kept")
	}
	route := []int{1}
	ok(t, q.Did(r, route))
	route[0], r.Vers[0].Past[0].To = 3, 9
	e := q.Next(2, 1)[0]
	e.Rec.Vers[0].Past[0].To, e.Route[0] = 8, 8
	list := []int{3}
	ok(t, q.SetMembers(list))
	list[0] = 7
	q.Members()[0] = 7
	q.Applied()[0] = 99
	e = q.Next(2, 1)[0]
	if e.Rec.Vers[0].Past[0].To != 1 || e.Route[0] != 1 || !slices.Equal(q.Members(), []int{3}) || q.Applied()[0] != 1 {
		t.Error("kept", e)
	}
}
