package node_test

import (
	"math/rand"
	"reflect"
	"slices"
	"strings"
	"testing"

	"firth/api"
	"firth/disk"
	"firth/frame"
	"firth/mend"
	. "firth/node"
	"firth/num"
	"firth/ring"
	"firth/tree"
	"firth/vers"
)

var (
	self = api.Addr{Site: 2, Node: 1}
	gate = api.Addr{Site: 2}
	peer = api.Addr{Site: 2, Node: 3}
)

func sp(s int, from, to int64) api.Span { return api.Span{S: s, From: from, To: to} }

func ver(s int, n int64, past ...api.Span) api.Ver {
	return api.Ver{Dot: api.Dot{S: s, N: n}, Past: past, Val: "v"}
}

func rec(key string, l ...api.Ver) api.Rec { return api.Rec{Key: key, Vers: l} }

type rs = []api.Rec

func same(a, b rs) bool {
	return slices.EqualFunc(a, b, func(x, y api.Rec) bool { return x.Key == y.Key && vers.Same(x.Vers, y.Vers) })
}

func open(t *testing.T, d *disk.Disk) *Node {
	t.Helper()
	n, e := Open(d, self, 256, 4)
	if e != 0 {
		t.Fatal(e)
	}
	return n
}

func ready(t *testing.T) (*Node, *disk.Disk) {
	t.Helper()
	d := disk.New(1 << 20)
	if e := Format(d); e != 0 {
		t.Fatal(e)
	}
	return open(t, d), d
}

func msg(kind int, m api.Msg) api.Msg {
	m.Kind, m.To, m.Id = kind, self, 77
	if m.From.Site == 0 {
		m.From = gate
	}
	return m
}

// back is what the node answers to the gate.
func back(kind int, m api.Msg) api.Msg {
	m.Kind, m.From, m.Id = kind, self, 77
	if m.To.Site == 0 {
		m.To = gate
	}
	return m
}

func tells(t *testing.T, n *Node, m api.Msg, want ...api.Msg) {
	t.Helper()
	got := n.Handle(m)
	if len(got) != len(want) {
		t.Fatalf("%+v", got)
	}
	for i := range want {
		g, w := got[i], want[i]
		if !same(g.Recs, w.Recs) {
			t.Errorf("%+v", g)
		}
		g.Recs, w.Recs = nil, nil
		if !reflect.DeepEqual(g, w) {
			t.Errorf("%+v, not %+v", g, w)
		}
	}
}

func TestFormatAndOpen(t *testing.T) {
	d := disk.New(100)
	if open(t, d).Intact() {
		t.Error("intact")
	}
	if e := Format(d); e != 0 || d.Loose() != 0 {
		t.Error(e)
	}
	if b, _ := d.Read("ok"); !slices.Equal(b, []byte{1}) {
		t.Error(b)
	}
	if e := Format(d); e != 0 || d.Used() != 1 || !open(t, d).Intact() {
		t.Error(e)
	}
	d.Append("x", nil)
	Format(d)
	if d.Loose() != 1 {
		t.Error("nothing was to be done")
	}
	if e := Format(disk.New(0)); e != api.ErrFull {
		t.Error(e)
	}
	for _, a := range []api.Addr{{}, {Site: 1}, {Site: 17, Node: 1}, {Site: 1, Node: 9}, {Site: 0, Node: 1}, {Site: 1, Node: -1}} {
		if n, e := Open(d, a, 16, 0); n != nil || e != api.ErrArg {
			t.Error(a, e)
		}
	}
	if n, e := Open(d, self, 16, -1); n != nil || e != api.ErrArg {
		t.Error(e)
	}
	bad, _ := frame.Put(nil)
	for _, name := range []string{"d", "h2", "h8"} {
		d := disk.New(100)
		d.Append(name+".0.1", bad)
		if n, e := Open(d, self, 16, 0); n != nil || e != api.ErrForm {
			t.Error(name, e)
		}
	}
	d = disk.New(100)
	d.Append("h1.0.1", bad)
	open(t, d)
}

func TestPutAndGet(t *testing.T) {
	n, _ := ready(t)
	a, b := rec("k", ver(1, 1)), rec("k", ver(2, 1))
	tells(t, n, msg(api.MPut, api.Msg{Recs: rs{a}}), back(api.MPutOK, api.Msg{Recs: rs{a}, N: 4}))
	tells(t, n, msg(api.MPut, api.Msg{Recs: rs{b, rec("l")}, For: 1, From: peer}), back(api.MPutOK, api.Msg{Recs: rs{b, rec("l")}, N: 4, To: peer}))
	tells(t, n, msg(api.MPut, api.Msg{}), back(api.MPutOK, api.Msg{N: 4}))
	tells(t, n, msg(api.MGet, api.Msg{Key: "k"}), back(api.MGot, api.Msg{Key: "k", Recs: rs{rec("k", ver(1, 1), ver(2, 1))}}))
	tells(t, n, msg(api.MGet, api.Msg{Key: "l"}), back(api.MGot, api.Msg{Key: "l"}))
	tells(t, n, msg(api.MGet, api.Msg{}), back(api.MGot, api.Msg{}))
	twin := ver(1, 1)
	twin.Val = "other"
	tells(t, n, msg(api.MPut, api.Msg{Recs: rs{rec("m", ver(1, 5)), rec("k", twin), rec("n", ver(1, 6))}}), back(api.MPutNo, api.Msg{Code: api.ErrTwin}))
	if !same(n.Recs(-1), rs{rec("k", ver(1, 1), ver(2, 1)), rec("m", ver(1, 5))}) {
		t.Error(n.Recs(-1))
	}
}

func TestWhatIsNotForIt(t *testing.T) {
	n, d := ready(t)
	put := msg(api.MPut, api.Msg{Recs: rs{rec("k", ver(1, 1))}})
	for _, change := range []func(m *api.Msg){
		func(m *api.Msg) { m.To = peer }, func(m *api.Msg) { m.To.Site = 1 }, func(m *api.Msg) { m.From.Site = 1 },
		func(m *api.Msg) { m.Recs[0].Key = "" }, func(m *api.Msg) { m.Id = -1 }, func(m *api.Msg) { m.Kind = 0 },
	} {
		m := put
		m.Recs = slices.Clone(put.Recs)
		change(&m)
		tells(t, n, m)
	}
	for _, kind := range []int{api.MPutNo, api.MGot, api.MScanned, api.MFar, api.MFarOK, api.MCut, api.MCutOK, api.MWant, api.MTell, api.MDone} {
		m := put
		m.Kind = kind
		tells(t, n, m)
	}
	if len(n.Recs(-1)) != 0 || d.Used() != 1 {
		t.Error("changed")
	}
}

func TestANodeThatIsNotIntact(t *testing.T) {
	d := disk.New(1000)
	n := open(t, d)
	k := rec("k", ver(1, 1))
	tells(t, n, msg(api.MPut, api.Msg{Recs: rs{k}}), back(api.MPutOK, api.Msg{Recs: rs{k}, N: 4}))
	tells(t, n, msg(api.MGet, api.Msg{Key: "k"}))
	tells(t, n, msg(api.MScan, api.Msg{N: int64(ring.Part("k"))}))
	tells(t, n, msg(api.MBless, api.Msg{N: 3}))
	if n.Intact() {
		t.Error("another life was meant")
	}
	tells(t, n, msg(api.MBless, api.Msg{N: 4}), back(api.MPutOK, api.Msg{N: 4}))
	if !n.Intact() || d.Loose() != 0 {
		t.Error("not intact")
	}
	tells(t, n, msg(api.MGet, api.Msg{Key: "k"}), back(api.MGot, api.Msg{Key: "k", Recs: rs{k}}))
	n = open(t, disk.New(0))
	tells(t, n, msg(api.MBless, api.Msg{N: 4}), back(api.MPutNo, api.Msg{Code: api.ErrFull}))
	tells(t, n, msg(api.MPut, api.Msg{Recs: rs{k}}), back(api.MPutNo, api.Msg{Code: api.ErrFull}))
}

func TestHints(t *testing.T) {
	n, d := ready(t)
	k := rec("k", ver(2, 1))
	tells(t, n, msg(api.MPut, api.Msg{Recs: rs{k}, For: 3}))
	tells(t, n, msg(api.MPut, api.Msg{Recs: rs{rec("a", ver(1, 1)), k}, For: 3}))
	tells(t, n, msg(api.MPut, api.Msg{Recs: rs{k}, For: 8}))
	for _, n := range []*Node{n, open(t, d)} {
		if !same(n.Hints(3), rs{rec("a", ver(1, 1)), k}) || !same(n.Hints(8), rs{k}) || len(n.Recs(-1)) != 0 {
			t.Error(n.Hints(3), n.Hints(8))
		}
		for _, f := range []int{-1, 0, 1, 2, 9} {
			if len(n.Hints(f)) != 0 {
				t.Error(f)
			}
		}
	}
	var want []api.Msg
	for _, x := range []struct {
		f int
		r api.Rec
	}{{3, rec("a", ver(1, 1))}, {3, k}, {8, k}} {
		want = append(want, api.Msg{Kind: api.MPut, From: self, To: api.Addr{Site: 2, Node: x.f}, Recs: rs{x.r}})
	}
	if got := n.Tick(); !reflect.DeepEqual(got, want) {
		t.Error(got)
	}
	for i, x := range []struct {
		from api.Addr
		recs rs
		left int
	}{
		{gate, rs{k}, 2}, {self, rs{k}, 2}, {api.Addr{Site: 2, Node: 2}, rs{k}, 2}, {peer, rs{rec("k", ver(1, 9))}, 2},
		{peer, rs{rec("z", ver(1, 9)), rec("k", ver(2, 5, sp(2, 1, 4)))}, 1}, {peer, rs{rec("a", ver(1, 1), ver(3, 3))}, 0},
	} {
		tells(t, n, msg(api.MPutOK, api.Msg{From: x.from, Recs: x.recs}))
		if len(n.Hints(3)) != x.left || len(n.Hints(8)) != 1 {
			t.Error(i, n.Hints(3))
		}
	}
	if len(open(t, d).Hints(3)) != 0 {
		t.Error("not put away")
	}
	// A hint that a twin stands against is no error that is told.
	twin := ver(2, 1)
	twin.Val = "other"
	tells(t, n, msg(api.MPut, api.Msg{Recs: rs{rec("k", twin), rec("x", ver(1, 1))}, For: 8}))
	if !same(n.Hints(8), rs{k}) {
		t.Error("up to the first error")
	}
}

func keysOf(part, count int) []string {
	var list []string
	for i := int64(0); len(list) < count; i++ {
		if key := "key" + num.Digits(i); ring.Part(key) == part {
			list = append(list, key)
		}
	}
	slices.Sort(list)
	return list
}

func TestScan(t *testing.T) {
	n, _ := ready(t)
	keys, other := keysOf(3, 3), keysOf(4, 1)
	var want rs
	for i, key := range keys {
		want = append(want, rec(key, ver(1, int64(i)+1)))
	}
	n.Handle(msg(api.MPut, api.Msg{Recs: append(slices.Clone(want), rec(other[0], ver(1, 9)))}))
	tells(t, n, msg(api.MScan, api.Msg{N: 3}), back(api.MScanned, api.Msg{N: 3, Recs: want}))
	tells(t, n, msg(api.MScan, api.Msg{N: 7}), back(api.MScanned, api.Msg{N: 7}))
	tells(t, n, msg(api.MScan, api.Msg{N: 8}), back(api.MScanned, api.Msg{N: 8}))
	tells(t, n, msg(api.MScan, api.Msg{N: 1<<63 - 1}), back(api.MScanned, api.Msg{N: 1<<63 - 1}))
	if !same(n.Recs(3), want) || len(n.Recs(-5)) != 4 || len(n.Recs(8)) != 0 || len(n.Recs(4)) != 1 {
		t.Error("Recs")
	}
}

func TestTreeAndLeaf(t *testing.T) {
	n, _ := ready(t)
	key := keysOf(5, 1)[0]
	own := rs{rec(key, ver(1, 1))}
	n.Handle(msg(api.MPut, api.Msg{Recs: own}))
	p := tree.Place(key)
	steps := mend.Answer(own, nil, make([]uint64, 16))
	tells(t, n, msg(api.MTree, api.Msg{N: 5, From: peer, Hashes: make([]uint64, 16)}), back(api.MTree, api.Msg{N: 5, To: peer, Path: p[:1], Hashes: steps[0].Hashes}))
	tells(t, n, msg(api.MTree, api.Msg{N: 5, Path: p[:1]}), back(api.MLeaf, api.Msg{N: 5, Path: p, Recs: own}))
	tells(t, n, msg(api.MTree, api.Msg{N: 5, Path: p}))
	tells(t, n, msg(api.MTree, api.Msg{N: 8}))
	tells(t, n, msg(api.MTree, api.Msg{N: 5, Hashes: mend.Open(own)}))
	tells(t, n, msg(api.MTree, api.Msg{N: 4}))
	theirs := rs{rec(key, ver(2, 1))}
	both := rs{rec(key, ver(1, 1), ver(2, 1))}
	tells(t, n, msg(api.MLeaf, api.Msg{N: 8, Path: p, Recs: theirs}))
	tells(t, n, msg(api.MLeaf, api.Msg{N: 5, Path: p[:1], Recs: theirs}))
	if !same(n.Recs(5), own) {
		t.Error("changed")
	}
	tells(t, n, msg(api.MLeaf, api.Msg{N: 5, Path: p, Recs: theirs}), back(api.MLeaf, api.Msg{N: 5, Path: p, Recs: both, Code: 1}))
	tells(t, n, msg(api.MLeaf, api.Msg{N: 5, Path: p, Recs: theirs, Code: 1}))
	tells(t, n, msg(api.MLeaf, api.Msg{N: 5, Path: p, Recs: both}))
	if !same(n.Recs(5), both) {
		t.Error(n.Recs(5))
	}
	later := rs{rec(key, ver(3, 1, sp(1, 1, 1), sp(2, 1, 1)))}
	tells(t, n, msg(api.MLeaf, api.Msg{N: 5, Path: p, Recs: later, Code: 9}))
	if !same(n.Recs(5), later) {
		t.Error(n.Recs(5))
	}
}

// pairAt tells two keys of a partition at one place.
func pairAt(part int) []string {
	seen := map[string]string{}
	for i := int64(0); ; i++ {
		key := "key" + num.Digits(i)
		place := num.Digits(int64(tree.Place(key)[0])) + "." + num.Digits(int64(tree.Place(key)[1]))
		if ring.Part(key) != part {
			continue
		}
		if other := seen[place]; other != "" {
			return []string{min(other, key), max(other, key)}
		}
		seen[place] = key
	}
}

func TestALeafOfSeveral(t *testing.T) {
	n, d := ready(t)
	keys := pairAt(0)
	list := rs{rec(keys[0], ver(1, 1)), rec(keys[1], ver(1, 2))}
	tells(t, n, msg(api.MLeaf, api.Msg{N: 0, Path: tree.Place(keys[0]), Recs: list}))
	if !same(n.Recs(0), list) {
		t.Error(n.Recs(0))
	}
	// Up to the first error: then what is there is given all the same.
	d.Append("x", make([]byte, 1<<20-d.Used()-12))
	more := rs{rec(keys[0], ver(2, 1, sp(1, 1, 1))), rec(keys[1])}
	tells(t, n, msg(api.MLeaf, api.Msg{N: 0, Path: tree.Place(keys[0]), Recs: more}), back(api.MLeaf, api.Msg{N: 0, Path: tree.Place(keys[0]), Recs: list[1:], Code: 1}))
	if !same(n.Recs(0), list) {
		t.Error(n.Recs(0))
	}
	if len(n.Mend(2, 0)) != 1 || len(n.Mend(8, 7)) != 1 {
		t.Error("Mend")
	}
	tells(t, n, msg(api.MScan, api.Msg{}), back(api.MScanned, api.Msg{Recs: list}))
}

func TestAnotherNode(t *testing.T) {
	a := api.Addr{Site: 16, Node: 8}
	n, e := Open(disk.New(10000), a, 16, 0)
	if e != 0 {
		t.Fatal(e)
	}
	if _, e := Open(disk.New(100), api.Addr{Site: 1, Node: 1}, 16, 0); e != 0 {
		t.Error(e)
	}
	for f := 1; f <= 7; f++ {
		n.Handle(api.Msg{Kind: api.MPut, From: api.Addr{Site: 16}, To: a, For: f, Recs: rs{rec("k", ver(1, int64(f)))}})
	}
	out := n.Tick()
	for f := 1; f <= 7; f++ {
		if len(n.Hints(f)) != 1 || len(out) != 7 || out[f-1].To != (api.Addr{Site: 16, Node: f}) {
			t.Error(f, out)
		}
	}
	if len(n.Hints(8)) != 0 {
		t.Error("for itself")
	}
	if out := n.Handle(api.Msg{Kind: api.MPutOK, From: api.Addr{Site: 16, Node: 1}, To: a, Recs: rs{rec("k", ver(1, 1))}}); len(out) != 0 || len(n.Hints(1)) != 0 || len(n.Hints(2)) != 1 {
		t.Error(n.Hints(1))
	}
}

func TestMend(t *testing.T) {
	n, _ := ready(t)
	key := keysOf(5, 1)[0]
	n.Handle(msg(api.MPut, api.Msg{Recs: rs{rec(key, ver(1, 1))}}))
	for _, x := range [][2]int{{0, 5}, {9, 5}, {1, 5}, {-1, 5}, {3, 8}, {3, -1}} {
		if len(n.Mend(x[0], x[1])) != 0 {
			t.Error(x)
		}
	}
	want := []api.Msg{{Kind: api.MTree, From: self, To: peer, N: 5, Hashes: mend.Open(n.Recs(5))}}
	if got := n.Mend(3, 5); !reflect.DeepEqual(got, want) {
		t.Error(got)
	}
}

func TestTwoNodesMeet(t *testing.T) {
	a, _ := ready(t)
	d := disk.New(1 << 20)
	Format(d)
	b, _ := Open(d, peer, 256, 0)
	keys := keysOf(2, 6)
	for i, key := range keys {
		to, n := self, a
		if i%2 == 1 {
			to, n = peer, b
		}
		n.Handle(api.Msg{Kind: api.MPut, From: gate, To: to, Recs: rs{rec(key, ver(1, int64(i)+1)), rec(keys[0], ver(2, int64(i)+1))}})
	}
	way := a.Mend(3, 2)
	for len(way) > 0 {
		m := way[0]
		way = way[1:]
		if m.To == self {
			way = append(way, a.Handle(m)...)
		} else {
			way = append(way, b.Handle(m)...)
		}
	}
	if !same(a.Recs(2), b.Recs(2)) || len(a.Recs(2)) != 6 {
		t.Error(a.Recs(2), b.Recs(2))
	}
}

func TestTrim(t *testing.T) {
	n, d := ready(t)
	gone := api.Ver{Dot: api.Dot{S: 1, N: 1}, Gone: true}
	n.Handle(msg(api.MPut, api.Msg{Recs: rs{rec("k", gone), rec("l", ver(1, 2))}}))
	n.Handle(msg(api.MPut, api.Msg{Recs: rs{rec("k", gone)}, For: 2}))
	if e := n.Trim(); e != 0 {
		t.Error(e)
	}
	if len(n.Recs(-1)) != 2 || len(n.Hints(2)) != 1 {
		t.Error("there is no floor")
	}
	names := strings.Join(d.Names(), " ")
	if names != "d.1.1 d.m h2.1.1 h2.m h3.m h4.m h5.m h6.m h7.m h8.m ok" {
		t.Error(names)
	}
	small := disk.New(40)
	n = open(t, small)
	n.Handle(msg(api.MPut, api.Msg{Recs: rs{rec("k", ver(1, 1))}, For: 2}))
	n.Handle(msg(api.MPut, api.Msg{Recs: rs{rec("k", ver(1, 1))}, For: 3}))
	if e := n.Trim(); e != api.ErrFull {
		t.Error(e)
	}
	if len(n.Hints(2)) != 1 || len(n.Hints(3)) != 1 || len(open(t, small).Hints(3)) != 1 {
		t.Error("lost")
	}
}

func TestWhateverOrder(t *testing.T) {
	rnd := rand.New(rand.NewSource(9))
	for range 100 {
		n, d := ready(t)
		list := rs{rec("k", ver(1, 1)), rec("k", ver(1, 2, sp(1, 1, 1))), rec("k", ver(2, 1)), rec("l", ver(2, 2)), rec("k", ver(3, 1, sp(2, 1, 2)))}
		rnd.Shuffle(len(list), func(i, j int) { list[i], list[j] = list[j], list[i] })
		for _, r := range list {
			n.Handle(msg(api.MPut, api.Msg{Recs: rs{r}}))
			if rnd.Intn(3) == 0 {
				d.Crash(0, 0)
				n = open(t, d)
			}
			if rnd.Intn(3) == 0 {
				n.Trim()
			}
		}
		if !same(n.Recs(-1), rs{rec("k", ver(1, 2, sp(1, 1, 1)), ver(3, 1, sp(2, 1, 2))), rec("l", ver(2, 2))}) {
			t.Fatal(n.Recs(-1))
		}
	}
}

func TestNothingIsShared(t *testing.T) {
	n, _ := ready(t)
	r := rec("k", ver(1, 2, sp(1, 1, 1)))
	m := msg(api.MPut, api.Msg{Recs: rs{r}})
	out := n.Handle(m)
	out[0].Recs[0].Vers[0].Past[0].To = 9
	if m.Recs[0].Vers[0].Past[0].To != 1 {
		t.Error("shared")
	}
	m.Recs[0].Vers[0].Past[0].To = 8
	n.Recs(-1)[0].Vers[0].Past[0].To = 7
	n.Handle(msg(api.MGet, api.Msg{Key: "k"}))[0].Recs[0].Vers[0].Past[0].To = 6
	path := append(make([]int, 0, 9), tree.Place("k")...)
	leaf := n.Handle(msg(api.MLeaf, api.Msg{N: int64(ring.Part("k")), Path: path}))
	leaf[0].Path[0] = 99
	if n.Recs(-1)[0].Vers[0].Past[0].To != 1 || path[0] == 99 {
		t.Error("kept")
	}
}
