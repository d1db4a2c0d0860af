package site_test

import (
	"fmt"
	"slices"
	"strings"
	"testing"

	"firth/api"
	"firth/disk"
	"firth/frame"
	"firth/pull"
	"firth/queue"
	"firth/ring"
	"firth/seal"
	. "firth/site"
	"firth/vers"
)

func TestRight(t *testing.T) {
	for i, change := range []func(c *api.Conf){
		func(c *api.Conf) {}, func(c *api.Conf) { c.Links = nil; c.Sites = 1 }, func(c *api.Conf) { c.R, c.W = 3, 1 }, func(c *api.Conf) { c.R, c.W = 1, 3 },
		func(c *api.Conf) { c.Secret = strings.Repeat("s", 64); c.Group = 0 }, func(c *api.Conf) { c.Room, c.Pend, c.Wait, c.Seg = 0, 0, 0, -5 },
		func(c *api.Conf) {
			*c = api.Conf{Sites: 1, Nodes: 1, Members: []int{1}, N: 1, R: 1, W: 1, Secret: "s", Cap: 1, Timeout: 1, HintAfter: 1}
		},
		func(c *api.Conf) {
			c.Sites, c.Links, c.Nodes, c.Members = 16, [][2]int{{1, 16}, {15, 16}}, 8, []int{1, 2, 3, 4, 5, 6, 7, 8}
			c.N, c.R, c.W = 8, 8, 8
		},
		func(c *api.Conf) { c.Cap, c.Timeout, c.HintAfter, c.Base = 65536, 1<<20, 1<<40, api.MaxCount }, func(c *api.Conf) { c.Links = [][2]int{{2, 3}, {1, 3}, {1, 2}} },
	} {
		c := conf()
		change(&c)
		if !Right(c) {
			t.Error(i)
		}
	}
	for i, change := range []func(c *api.Conf){
		func(c *api.Conf) { c.Sites = 0; c.Links = nil }, func(c *api.Conf) { c.Sites = 17 }, func(c *api.Conf) { c.Links = [][2]int{{2, 1}} },
		func(c *api.Conf) { c.Links = [][2]int{{1, 1}} }, func(c *api.Conf) { c.Links = [][2]int{{0, 1}} }, func(c *api.Conf) { c.Links = [][2]int{{1, 4}} },
		func(c *api.Conf) { c.Links = [][2]int{{1, 2}, {2, 3}, {1, 2}} }, func(c *api.Conf) { c.Nodes = 0 }, func(c *api.Conf) { c.Nodes = 9 }, func(c *api.Conf) { c.Nodes = 2 },
		func(c *api.Conf) { c.Members = nil }, func(c *api.Conf) { c.Members = []int{3, 2, 1} }, func(c *api.Conf) { c.Members = []int{1, 2} },
		func(c *api.Conf) { c.N = 0 }, func(c *api.Conf) { c.N = 4 }, func(c *api.Conf) { c.R = 0 }, func(c *api.Conf) { c.R = 4 }, func(c *api.Conf) { c.W = 0 }, func(c *api.Conf) { c.W = 4 },
		func(c *api.Conf) { c.R, c.W = 1, 2 }, func(c *api.Conf) { c.Group = -1 }, func(c *api.Conf) { c.Secret = "" }, func(c *api.Conf) { c.Secret = strings.Repeat("s", 65) },
		func(c *api.Conf) { c.Room = -1 }, func(c *api.Conf) { c.Pend = -1 }, func(c *api.Conf) { c.Wait = -1 }, func(c *api.Conf) { c.Cap = 0 }, func(c *api.Conf) { c.Cap = 65537 },
		func(c *api.Conf) { c.Timeout = 0 }, func(c *api.Conf) { c.Timeout = 1<<20 + 1 }, func(c *api.Conf) { c.HintAfter = 0 }, func(c *api.Conf) { c.Base = -1 }, func(c *api.Conf) { c.Base = api.MaxCount + 1 },
	} {
		c := conf()
		change(&c)
		if Right(c) {
			t.Error(i)
		}
		if s, e := Open(c, 1, 0, disk.New(100)); s != nil || e != api.ErrConf {
			t.Error(i, e)
		}
	}
}

func TestOpen(t *testing.T) {
	for _, x := range []struct {
		self int
		boot int64
	}{{0, 0}, {4, 0}, {1, -1}, {1, 1 << 30}} {
		if s, e := Open(conf(), x.self, x.boot, disk.New(100)); s != nil || e != api.ErrConf {
			t.Error(x, e)
		}
	}
	d := disk.New(100)
	b, _ := frame.Put([]byte{0})
	d.Append("g.m", b)
	if s, e := Open(conf(), 1, 0, d); s != nil || e != api.ErrForm {
		t.Error(e)
	}
	s := open(t, conf(), 2, 1<<30-1, disk.New(100))
	if !slices.Equal(s.Applied(), []int64{0, 0, 0}) || len(s.Gaps()) != 0 || !slices.Equal(s.Members(), []int{1, 2, 3}) || s.Entries() != 0 || s.Waits() != 0 || !s.Idle() {
		t.Error("at first")
	}
	if _, under := s.Under(); under {
		t.Error("under way")
	}
	wantOuts(t, s)
	if out := must(t)(s.Get(1, nil, "k")); out[0].Id != (1<<30-1)<<32+1 {
		t.Error(out[0].Id)
	}
}

func TestTheExample(t *testing.T) {
	c := conf()
	c.N, c.R, c.W, c.Members = 1, 1, 1, []int{1}
	s := open(t, c, 1, 0, disk.New(1000))
	wantLines(t, must(t)(s.Put(1, nil, "k", "v", false)), "1.1 MPut id=1 k:1.1")
	wantLines(t, s.Handle(ack(1, 1)))
	o := wantOuts(t, s, "1 1.1 t")
	if l, e := seal.Open("s", 7, o[0].Token); e != 0 || !slices.Equal(l, []api.Span{sp(1, 1, 1)}) || s.Applied()[0] != 1 {
		t.Error(l, e)
	}
	other := open(t, c, 2, 0, disk.New(1000))
	if out, e := other.Get(1, o[0].Token, "k"); out != nil || e != api.ErrNotYet {
		t.Error(e)
	}
}

func TestArguments(t *testing.T) {
	s := fresh1(t)
	long := strings.Repeat("v", 257)
	foreign, _ := seal.Seal("s", 8, nil)
	forged := token(t)
	forged[len(forged)-1]++
	ahead := token(t, sp(2, 1, 1))
	for i, x := range []struct {
		token    []byte
		key, val string
		gone     bool
		e        api.Errno
	}{
		{[]byte{9}, "", "", false, api.ErrArg}, {[]byte{9}, strings.Repeat("k", 33), "", false, api.ErrArg}, {[]byte{9}, "k", long, false, api.ErrArg},
		{[]byte{9}, "k", long, true, api.ErrToken}, {foreign, "k", "", false, api.ErrForeign}, {forged, "k", "", false, api.ErrForged}, {ahead, "k", "", false, api.ErrNotYet},
	} {
		if out, e := s.Put(1, x.token, x.key, x.val, x.gone); out != nil || e != x.e {
			t.Error(i, e)
		}
		if out, e := s.Get(1, x.token, x.key); len(x.val) == 0 && (out != nil || e != x.e) {
			t.Error(i, e)
		}
	}
	for _, from := range []int{0, 1, 3, 4, -1} {
		if out, e := s.Full(1, from); out != nil || e != api.ErrArg {
			t.Error(from, e)
		}
	}
	for _, members := range [][]int{nil, {1, 2}, {1, 2, 5}, {3, 2, 1}} {
		if out, e := s.Move(1, members); out != nil || e != api.ErrMembers {
			t.Error(members, e)
		}
	}
	for _, x := range []struct {
		node int
		life int64
	}{{0, 0}, {5, 0}, {1, -1}} {
		if out, e := s.Heal(1, x.node, x.life); out != nil || e != api.ErrArg {
			t.Error(x, e)
		}
	}
	if !s.Idle() || len(s.Outcomes()) != 0 {
		t.Error("changed")
	}
	if out := must(t)(s.Get(1, nil, "k")); out[0].Id != 1 {
		t.Error("a number was used beside an error")
	}
}

func TestGet(t *testing.T) {
	s := fresh1(t)
	list := keepersOf(conf(), "k")
	wantLines(t, must(t)(s.Get(4, nil, "k")), toEach(list, "MGet id=1 key=k")...)
	if s.Idle() {
		t.Error("idle")
	}
	two := got(1, list[0], "k", ver(1, 1))
	two.Recs = append(two.Recs, rec("k"))
	for _, m := range []api.Msg{got(2, list[0], "k"), got(1, list[0], "l"), got(1, 4, "k"), two, got(1, list[0], "k", ver(2, 1), ver(1, 1))} {
		wantLines(t, s.Handle(m))
	}
	other := got(1, list[0], "k", ver(1, 1))
	other.Recs[0].Key = "l"
	s.Handle(other)
	foreign := got(1, list[0], "k", ver(1, 1))
	foreign.From.Site = 2
	s.Handle(foreign)
	wantLines(t, s.Handle(got(1, list[0], "k")))
	wantLines(t, s.Handle(got(1, list[0], "k", ver(1, 5))))
	wantOuts(t, s)
	gone := api.Ver{Dot: api.Dot{S: 2, N: 9}, Past: []api.Span{sp(3, 4, 5)}, Gone: true}
	wantLines(t, s.Handle(got(1, list[2], "k", ver(1, 1), gone)), fmt.Sprintf("1.%d MPut k:1.1:2.9", list[0]))
	o := wantOuts(t, s, "4 v1.1 v2.9 t")
	if l, e := seal.Open("s", 7, o[0].Token); e != 0 || !slices.Equal(l, []api.Span{sp(1, 1, 1), sp(2, 9, 9), sp(3, 4, 5)}) || !o[0].Vers[1].Gone {
		t.Error(l, e)
	}
	wantLines(t, s.Handle(got(1, list[1], "k")))
	wantOuts(t, s)
	if !s.Idle() {
		t.Error("not idle")
	}
}

func TestTokensGrow(t *testing.T) {
	c := conf()
	c.Base = 5000
	s := open(t, c, 1, 0, disk.New(1<<20))
	list := keepersOf(c, "k")
	had := []api.Span{sp(1, 2, 3), sp(2, 7, 7)}
	s.Get(1, token(t, had...), "k")
	s.Handle(got(1, list[0], "k", ver(1, 4)))
	s.Handle(got(1, list[1], "k", ver(1, 4)))
	o := wantOuts(t, s, "1 v1.4 t")
	if l, _ := seal.Open("s", 7, o[0].Token); !slices.Equal(l, []api.Span{sp(1, 2, 4), sp(2, 7, 7)}) {
		t.Error(l)
	}
	var odd, even []api.Span
	key := strings.Repeat("k", 32)
	for i := range int64(api.MaxSpans) {
		odd = append(odd, sp(1, 2*i+1, 2*i+1))
		even = append(even, sp(1, 2*i+2, 2*i+2))
	}
	s.Get(2, token(t, odd...), "k")
	for _, n := range list[:2] {
		s.Handle(got(2, n, "k", ver(2, 1)))
	}
	wantOuts(t, s, "2 e30")
	// What would be too much on the way isn't at the end.
	s.Get(3, token(t, odd...), "k")
	for _, n := range list[:2] {
		s.Handle(got(3, n, "k", ver(2, 1), ver(2, 3, even...)))
	}
	wantOuts(t, s, "3 v2.1 v2.3 t")
	s.Put(4, token(t, odd...), "k", "v", false)
	s.Handle(ack(4, list[0]))
	s.Handle(ack(4, list[1]))
	wantOuts(t, s, "4 e30 1.5001")
	if s.Applied()[0] != 5001 {
		t.Error("the write is done")
	}
	// As many spans as may be, a value and a key as long as may be.
	s.Put(5, token(t, odd[1:]...), key, strings.Repeat("v", 256), false)
	for _, n := range keepersOf(c, key)[:2] {
		s.Handle(ack(5, n))
	}
	wantOuts(t, s, "5 1.5002 t")
	if o, e := s.Get(6, nil, key); e != 0 || len(o) != 3 {
		t.Error(e)
	}
}

func TestPuts(t *testing.T) {
	s := fresh1(t)
	list := keepersOf(conf(), "k")
	wantLines(t, must(t)(s.Put(1, nil, "k", "v", false)), toEach(list, "MPut id=1 k:1.1")...)
	wantLines(t, must(t)(s.Put(2, nil, "k", strings.Repeat("x", 300), true)))
	wantLines(t, must(t)(s.Get(3, nil, "k")), toEach(list, "MGet id=2 key=k")...)
	if out, e := s.Put(4, nil, "k", "v", false); out != nil || e != api.ErrQueue {
		t.Error(e)
	}
	if out, e := s.Get(4, nil, "k"); out != nil || e != api.ErrQueue {
		t.Error(e)
	}
	r, under := s.Under()
	if !under || r.Key != "k" || r.Vers[0].Val != "v" || s.Idle() {
		t.Error(r, under)
	}
	wantLines(t, s.Handle(ack(9, list[0])))
	wantLines(t, s.Handle(ack(1, list[0])))
	wantLines(t, s.Handle(ack(1, list[0])))
	wantLines(t, s.Handle(ack(1, 4)))
	no := ack(1, list[1])
	no.Kind = api.MPutNo
	wantLines(t, s.Handle(no))
	wantLines(t, s.Handle(ack(1, list[1])), toEach(list, "MPut id=3 k:1.2")...)
	wantOuts(t, s, "1 1.1 t")
	if _, e := s.Get(4, nil, "k"); e != 0 {
		t.Error("the first put is over", e)
	}
	for i := range 2 {
		s.Handle(got(4, list[i], "k"))
	}
	wantOuts(t, s, "4 t")
	if r, _ := s.Under(); !r.Vers[0].Gone || r.Vers[0].Val != "" || len(r.Vers[0].Past) != 0 || s.Entries() != 1 {
		t.Error(r)
	}
	s.Handle(ack(3, list[2]))
	s.Handle(ack(3, list[1]))
	wantOuts(t, s, "2 1.2 t")
	wantLines(t, must(t)(s.Put(5, token(t, sp(1, 2, 2)), "k", "w", false)), toEach(list, "MPut id=5 k:1.3")...)
	if r, _ := s.Under(); !slices.Equal(r.Vers[0].Past, []api.Span{sp(1, 2, 2)}) {
		t.Error(r)
	}
	if s.Entries() != 2 || !slices.Equal(s.Applied(), []int64{2, 0, 0}) {
		t.Error(s.Entries())
	}
}

func TestAnIssueThatFails(t *testing.T) {
	c := conf()
	c.Base = api.MaxCount
	s := open(t, c, 1, 0, disk.New(1000))
	wantLines(t, must(t)(s.Put(1, nil, "k", "v", false)))
	wantOuts(t, s, "1 e40")
	s = open(t, conf(), 1, 0, disk.New(5))
	wantLines(t, must(t)(s.Put(1, nil, "k", "v", false)))
	wantOuts(t, s, "1 e72")
	if !s.Idle() {
		t.Error("not idle")
	}
}

func TestAnEndThatIsRefused(t *testing.T) {
	d := disk.New(1000)
	s := open(t, conf(), 1, 0, d)
	list := keepersOf(conf(), "k")
	s.Put(1, nil, "k", "v", false)
	d.Append("x", make([]byte, 1000-d.Used()))
	s.Handle(ack(1, list[0]))
	wantLines(t, s.Handle(ack(1, list[1])))
	wantLines(t, s.Tick())
	wantOuts(t, s)
	if s.Idle() || s.Applied()[0] != 0 {
		t.Error("not refused")
	}
	d.Remove("x")
	if _, e := s.Get(1, []byte{1}, "k"); e != api.ErrToken || s.Applied()[0] != 0 {
		t.Error("a call that answers an error tries nothing")
	}
	wantLines(t, s.Handle(api.Msg{Kind: 99, To: api.Addr{Site: 1}, From: api.Addr{Site: 1}}))
	if s.Applied()[0] != 0 {
		t.Error("a message that isn't right tries nothing")
	}
	s.Handle(far(api.MFarOK, 3, api.Msg{}))
	wantOuts(t, s, "1 1.1 t")
	if s.Applied()[0] != 1 || !s.Idle() {
		t.Error("not tried again")
	}
}

func TestACrashBehindAnIssue(t *testing.T) {
	d := disk.New(10000)
	s := open(t, conf(), 1, 0, d)
	list := keepersOf(conf(), "k")
	s.Put(1, nil, "k", "v", false)
	d.Crash(0, 0)
	s = open(t, conf(), 1, 3, d)
	if s.Idle() {
		t.Error("idle")
	}
	first := int64(3<<32 + 1)
	wantLines(t, s.Tick(), toEach(list, "MPut id=%d k:1.1", first)...)
	s.Handle(ack(first, list[0]))
	s.Handle(ack(first, list[1]))
	wantOuts(t, s)
	if !slices.Equal(s.Applied(), []int64{1, 0, 0}) || !s.Idle() {
		t.Error(s.Applied())
	}
	wantLines(t, must(t)(s.Put(2, nil, "k", "v", false)), toEach(list, "MPut id=%d k:1.2", first+1)...)
}

func TestTicksOfAsks(t *testing.T) {
	s := fresh1(t)
	list := keepersOf(conf(), "k")
	s.Put(1, nil, "k", "v", false)
	s.Put(2, nil, "k", "v", false)
	s.Get(3, nil, "k")
	s.Handle(got(2, list[1], "k"))
	waits := []int{list[0], list[2]}
	again := append(toEach(waits, "MGet id=2 key=k"), toEach(list, "MPut id=1 k:1.1")...)
	wantLines(t, s.Tick(), again...)
	hints := toEach(waits, "MGet id=2 key=k")
	for _, n := range list {
		hints = append(hints, fmt.Sprintf("1.%d MPut id=1 k:1.1", n))
	}
	wantLines(t, s.Tick(), hints...)
	for range 3 {
		wantLines(t, s.Tick(), again...)
	}
	wantOuts(t, s)
	wantLines(t, s.Tick(), toEach(list, "MPut id=1 k:1.1")...)
	wantOuts(t, s, "3 e201", "2 e201", "1 e201 1.1")
	for range 9 {
		wantLines(t, s.Tick(), toEach(list, "MPut id=1 k:1.1")...)
	}
	s.Handle(ack(1, list[0]))
	s.Handle(ack(1, list[1]))
	wantOuts(t, s)
	if s.Applied()[0] != 1 || !s.Idle() {
		t.Error("the write stays under way")
	}
}

func TestHints(t *testing.T) {
	c := conf()
	c.Members, c.N, c.R, c.W = []int{1, 2, 3, 4}, 2, 1, 2
	s := open(t, c, 1, 0, disk.New(10000))
	list, rest := keepersOf(c, "k"), ring.Rest(c.Members, ring.Part("k"), 2)
	s.Put(1, nil, "k", "v", false)
	again := toEach(list, "MPut id=1 k:1.1")
	wantLines(t, s.Tick(), again...)
	wantLines(t, s.Tick(), again[0], fmt.Sprintf("1.%d MPut for=%d k:1.1", rest[0], list[0]), again[1], fmt.Sprintf("1.%d MPut for=%d k:1.1", rest[1], list[1]))
	wantLines(t, s.Tick(), again...)
	// The i-th who hasn't answered has the i-th of the others.
	s = open(t, c, 1, 0, disk.New(10000))
	s.Put(1, nil, "k", "v", false)
	s.Handle(ack(1, list[0]))
	s.Tick()
	wantLines(t, s.Tick(), again[1], fmt.Sprintf("1.%d MPut for=%d k:1.1", rest[0], list[1]))
}

func TestSendingOn(t *testing.T) {
	c := conf()
	c.Cap = 9
	s := open(t, c, 2, 0, disk.New(10000))
	b := api.Addr{Site: 2}
	for i := range int64(6) {
		m := api.Msg{Kind: api.MFar, From: api.Addr{Site: 1}, To: b, N: 50 + i, Recs: []api.Rec{rec("k", ver(1, i+1))}, Route: []int{1}}
		out := s.Handle(m)
		for _, n := range keepersOf(c, "k")[:2] {
			out = s.Handle(api.Msg{Kind: api.MPutOK, From: api.Addr{Site: 2, Node: n}, To: b, Id: i + 1})
		}
		wantLines(t, out, fmt.Sprintf("1.0 MFarOK n=%d", 50+i))
	}
	wantLines(t, s.Tick(), "3.0 MFar n=1 k:1.1 route=[1 2]", "3.0 MFar n=2 k:1.2 route=[1 2]", "3.0 MFar n=3 k:1.3 route=[1 2]", "3.0 MFar n=4 k:1.4 route=[1 2]")
	s.Handle(api.Msg{Kind: api.MFarOK, From: api.Addr{Site: 1}, To: b, N: 1})
	s.Handle(api.Msg{Kind: api.MFarOK, From: api.Addr{Site: 3}, To: b, N: 2})
	if s.Entries() != 5 {
		t.Error(s.Entries())
	}
	if out := s.Tick(); len(out) != 4 || out[1].N != 3 || out[3].N != 5 {
		t.Error(out)
	}
	c.Links = [][2]int{{2, 3}, {1, 2}}
	s = open(t, c, 2, 0, disk.New(10000))
	s.Put(1, nil, "k", "v", false)
	for _, n := range keepersOf(c, "k")[:2] {
		s.Handle(api.Msg{Kind: api.MPutOK, From: api.Addr{Site: 2, Node: n}, To: b, Id: 1})
	}
	wantLines(t, s.Tick(), "1.0 MFar n=1 k:2.1 route=[2]", "3.0 MFar n=1 k:2.1 route=[2]")
}

func TestFarWrites(t *testing.T) {
	s := fresh1(t)
	list := keepersOf(conf(), "k")
	wantLines(t, s.Handle(far(api.MFar, 2, api.Msg{N: 8, Recs: []api.Rec{rec("k", ver(2, 2, sp(2, 1, 1)))}, Route: []int{2}})))
	if s.Waits() != 1 || !s.Idle() {
		t.Error("what waits isn't the gate's own")
	}
	two := far(api.MFar, 2, api.Msg{N: 9, Recs: []api.Rec{rec("k", ver(2, 1))}, Route: []int{3, 2}})
	for i, change := range []func(m *api.Msg){
		func(m *api.Msg) { m.From.Site = 3 }, func(m *api.Msg) { m.From.Node = 1 }, func(m *api.Msg) { m.Route = []int{2, 4} }, func(m *api.Msg) { m.Route = []int{2, 2} },
		func(m *api.Msg) { m.Recs = nil }, func(m *api.Msg) { m.Recs = []api.Rec{rec("k")} }, func(m *api.Msg) { m.Recs = append(m.Recs, rec("l", ver(2, 1))) },
		func(m *api.Msg) { m.Recs = []api.Rec{rec("k", ver(2, 1), ver(3, 1))} }, func(m *api.Msg) { m.Recs = []api.Rec{rec("k", ver(4, 1))} },
		func(m *api.Msg) { m.Recs = []api.Rec{rec("k", ver(1, 1))} }, func(m *api.Msg) { m.To.Site = 2 }, func(m *api.Msg) { m.Recs = []api.Rec{rec("", ver(2, 1))} },
	} {
		m := two
		m.Recs = slices.Clone(two.Recs)
		change(&m)
		wantLines(t, s.Handle(m))
		if s.Waits() != 1 {
			t.Error(i)
		}
	}
	wantLines(t, s.Handle(two), toEach(list, "MPut id=1 k:2.1")...)
	wantLines(t, s.Handle(two))
	if s.Waits() != 1 || s.Idle() {
		t.Error("it is what the gate does")
	}
	s.Handle(ack(1, list[0]))
	want := append([]string{"2.0 MFarOK n=9"}, toEach(list, "MPut id=2 k:2.2")...)
	wantLines(t, s.Handle(ack(1, list[1])), want...)
	wantLines(t, s.Handle(two), "2.0 MFarOK n=9")
	s.Handle(ack(2, list[0]))
	wantLines(t, s.Handle(ack(2, list[1])), "2.0 MFarOK n=8")
	if !slices.Equal(s.Applied(), []int64{0, 2, 0}) || !s.Idle() || s.Entries() != 0 {
		t.Error(s.Applied(), s.Entries())
	}
}

func TestAFullInbox(t *testing.T) {
	s := fresh1(t)
	for _, n := range []int64{5, 4, 3} {
		s.Handle(far(api.MFar, 2, api.Msg{N: n, Recs: []api.Rec{rec("k", ver(2, n))}}))
	}
	if s.Waits() != 2 {
		t.Error(s.Waits())
	}
	if out := s.Handle(far(api.MFar, 2, api.Msg{N: 1, Recs: []api.Rec{rec("k", ver(2, 1))}})); len(out) != 3 {
		t.Error(out)
	}
}

// answerScans lets the first two nodes of each partition answer with these records, and tells what comes of it.
func answerScans(s *Site, out []api.Msg, list ...api.Rec) []api.Msg {
	count := map[int64]int{}
	var next []api.Msg
	for _, m := range out {
		if m.Kind != api.MScan || count[m.Id] == 2 {
			continue
		}
		count[m.Id]++
		var mine []api.Rec
		for _, r := range list {
			if int64(ring.Part(r.Key)) == m.N {
				mine = append(mine, r)
			}
		}
		next = append(next, s.Handle(scanned(m.Id, m.To.Node, int(m.N), mine...))...)
	}
	return next
}

func answerPuts(s *Site, out []api.Msg, life int64) []api.Msg {
	count := map[int64]int{}
	var next []api.Msg
	for _, m := range out {
		if m.Kind != api.MPut || count[m.Id] == 2 {
			continue
		}
		count[m.Id]++
		a := ack(m.Id, m.To.Node)
		a.N = life
		next = append(next, s.Handle(a)...)
	}
	return next
}

func TestCut(t *testing.T) {
	s := fresh1(t)
	if out := s.Handle(far(api.MCut, 3, api.Msg{Id: 40})); len(out) != 0 {
		t.Error("not linked")
	}
	out := s.Handle(far(api.MCut, 2, api.Msg{Id: 40}))
	var want []string
	for part := range api.Parts {
		n := ""
		if part > 0 {
			n = fmt.Sprintf(" n=%d", part)
		}
		want = append(want, toEach(ring.List(conf().Members, part, 3), "MScan id=%d%s", part+1, n)...)
	}
	wantLines(t, out, want...)
	wantLines(t, s.Handle(far(api.MCut, 2, api.Msg{Id: 40})))
	wantLines(t, s.Handle(far(api.MWant, 2, api.Msg{Id: 40, Path: []int{1}})))
	// An asking that is done isn't asked again.
	for _, n := range ring.List(conf().Members, 0, 3)[:2] {
		s.Handle(scanned(1, n, 0, rec("k")))
	}
	wantLines(t, s.Tick(), want[3:]...)
	for _, m := range []api.Msg{scanned(1, out[0].To.Node, 1), scanned(2, out[0].To.Node, 0), scanned(99, 1, 0), scanned(1, 4, 0)} {
		wantLines(t, s.Handle(m))
	}
	recs := []api.Rec{rec("k", ver(1, 1)), rec("l", ver(2, 1)), rec("m", ver(3, 1))}
	wantLines(t, answerScans(s, out, recs...), "2.0 MCutOK id=40 vec=[0 0 0] hashes=16")
	cut, _ := pull.NewCut(40, []int64{0, 0, 0}, recs)
	again := s.Handle(far(api.MCut, 2, api.Msg{Id: 40}))
	if len(again) != 1 || !slices.Equal(again[0].Hashes, cut.Open()) || !s.Idle() {
		t.Error(again)
	}
	for d := range 16 {
		h, _, _ := cut.Want([]int{d})
		told := s.Handle(far(api.MWant, 2, api.Msg{Id: 40, Path: []int{d}}))
		if len(told) != 1 || told[0].Kind != api.MTell || told[0].Id != 40 || !slices.Equal(told[0].Path, []int{d}) || !slices.Equal(told[0].Hashes, h) {
			t.Error(told)
		}
	}
	wantLines(t, s.Handle(far(api.MWant, 2, api.Msg{Id: 40})))
	wantLines(t, s.Handle(far(api.MWant, 2, api.Msg{Id: 41, Path: []int{1}})))
	wantLines(t, s.Handle(far(api.MDone, 2, api.Msg{Id: 41})))
	wantLines(t, s.Handle(far(api.MWant, 2, api.Msg{Id: 40, Path: []int{1, 2, 3}[:2]})), "2.0 MTell id=40 path=[1 2]")
	s.Handle(far(api.MDone, 2, api.Msg{Id: 40}))
	wantLines(t, s.Handle(far(api.MWant, 2, api.Msg{Id: 40, Path: []int{1}})))
}

func TestCutsThatAreWanted(t *testing.T) {
	c := conf()
	s := open(t, c, 2, 0, disk.New(1000))
	send := func(kind, from int, id int64) []api.Msg {
		return s.Handle(api.Msg{Kind: kind, From: api.Addr{Site: from}, To: api.Addr{Site: 2}, Id: id})
	}
	// made answers the scans of the cut that the gate is at, and tells what is sent then.
	made := func(out []api.Msg) []api.Msg {
		var next []api.Msg
		for _, m := range out {
			next = append(next, s.Handle(api.Msg{Kind: api.MScanned, From: m.To, To: m.From, Id: m.Id, N: m.N})...)
		}
		return next
	}
	scans := send(api.MCut, 1, 5)
	if len(scans) != 24 {
		t.Fatal(len(scans))
	}
	for _, x := range [][2]int64{{3, 7}, {1, 6}, {1, 5}, {3, 8}, {1, 6}} {
		wantLines(t, send(api.MCut, int(x[0]), x[1]))
	}
	for range c.Timeout {
		if out := s.Tick(); len(out) != 24 || out[0].Id != 1 {
			t.Fatal(len(out))
		}
	}
	// The cut 5 is given up, and those begin that are wanted still: 8 of site 3, and then 6 of site 1.
	out := s.Tick()
	if len(out) != 24 || out[0].Id != 9 {
		t.Fatal(len(out))
	}
	wantLines(t, made(scans))
	out = made(out)
	if len(out) != 25 || line(out[0]) != "3.0 MCutOK id=8 vec=[0 0 0]"+hashes(out[0]) || s.Idle() {
		t.Fatal(out)
	}
	out = made(out[1:])
	if len(out) != 1 || line(out[0]) != "1.0 MCutOK id=6 vec=[0 0 0]"+hashes(out[0]) || !s.Idle() {
		t.Fatal(out)
	}
	wantOuts(t, s)
}

func hashes(m api.Msg) string { return fmt.Sprintf(" hashes=%d", len(m.Hashes)) }

func TestHeal(t *testing.T) {
	s := fresh1(t)
	out := must(t)(s.Heal(6, 2, 4))
	if len(out) != 24 || s.Idle() {
		t.Error(len(out))
	}
	if _, e := s.Heal(7, 1, 0); e != api.ErrBusy {
		t.Error(e)
	}
	if _, e := s.Move(7, []int{1, 2, 3}); e != api.ErrBusy {
		t.Error(e)
	}
	recs := []api.Rec{rec("k", ver(1, 1)), rec("l", ver(2, 1))}
	if ring.Part("k") > ring.Part("l") {
		slices.Reverse(recs)
	}
	out = answerScans(s, out, recs...)
	wantLines(t, out, fmt.Sprintf("1.2 MPut id=9 %s:%d.1", recs[0].Key, recs[0].Vers[0].Dot.S), fmt.Sprintf("1.2 MPut id=10 %s:%d.1", recs[1].Key, recs[1].Vers[0].Dot.S))
	wantLines(t, answerPuts(s, out, 3))
	wantLines(t, s.Tick(), line(out[0]), line(out[1]))
	wantLines(t, answerPuts(s, out[:1], 4))
	wantLines(t, s.Tick(), line(out[1]))
	wantLines(t, answerPuts(s, out, 4), "1.2 MBless id=11 n=4")
	wantLines(t, s.Tick(), "1.2 MBless id=11 n=4")
	for _, x := range []struct {
		id   int64
		node int
		life int64
	}{{11, 2, 3}, {11, 1, 4}, {10, 2, 4}} {
		m := ack(x.id, x.node)
		m.N = x.life
		s.Handle(m)
		wantOuts(t, s)
	}
	m := ack(11, 2)
	m.N = 4
	wantLines(t, s.Handle(m))
	wantOuts(t, s, "6")
	if !s.Idle() {
		t.Error("not idle")
	}
	// One that keeps nothing is blessed at once.
	wantLines(t, must(t)(s.Heal(8, 4, 0)), "1.4 MBless id=12")
	for range 5 {
		wantLines(t, s.Tick(), "1.4 MBless id=12")
	}
	wantLines(t, s.Tick())
	wantOuts(t, s, "8 e201")
	if !s.Idle() {
		t.Error("not idle")
	}
}

func TestMove(t *testing.T) {
	c := conf()
	c.N, c.R, c.W = 2, 2, 1
	d := disk.New(10000)
	s := open(t, c, 1, 0, d)
	to := []int{2, 3, 4}
	moves := ring.Moves(c.Members, to, 2)
	key := ""
	for i := 0; key == ""; i++ {
		k := fmt.Sprint("key", i)
		if len(moves) > 0 && ring.Part(k) == moves[0].Part {
			key = k
		}
	}
	s.Get(1, nil, key)
	out := must(t)(s.Move(5, to))
	var want []string
	for i, m := range moves {
		text := fmt.Sprintf("MScan id=%d", i+2)
		if m.Part > 0 {
			text += fmt.Sprintf(" n=%d", m.Part)
		}
		want = append(want, toEach(m.Old, "%s", text)...)
	}
	wantLines(t, out, want...)
	out = answerScans(s, out, rec(key, ver(1, 1)))
	next := int64(len(moves) + 2)
	wantLines(t, out, toEach(moves[0].New, "MPut id=%d %s:1.1", next, key)...)
	// The i-th of those behind may be the very node that hasn't answered: it has no hint then.
	s.Tick()
	rest := ring.Rest(c.Members, moves[0].Part, 2)
	want = toEach(moves[0].Old, "MGet id=1 key=%s", key)
	for i, n := range moves[0].New {
		want = append(want, fmt.Sprintf("1.%d MPut id=%d %s:1.1", n, next, key))
		if i < len(rest) && rest[i] != n {
			want = append(want, fmt.Sprintf("1.%d MPut for=%d %s:1.1", rest[i], n, key))
		}
	}
	wantLines(t, s.Tick(), want...)
	d.Append("x", make([]byte, 10000-d.Used()))
	wantLines(t, s.Handle(ack(next, moves[0].New[0])))
	wantOuts(t, s)
	d.Remove("x")
	wantLines(t, s.Handle(ack(77, 1)), toEach(moves[0].New, "MGet id=%d key=%s", next+1, key)...)
	wantOuts(t, s, "5")
	if !slices.Equal(s.Members(), to) || s.Idle() {
		t.Error(s.Members())
	}
	wantLines(t, s.Handle(got(1, moves[0].New[0], key)))
	s.Handle(got(next+1, moves[0].New[0], key))
	s.Handle(got(next+1, moves[0].New[1], key))
	wantOuts(t, s, "1 t")
	// To the same members nothing is moved.
	wantLines(t, must(t)(s.Move(6, to)))
	wantOuts(t, s, "6")
	if s := open(t, c, 1, 1, d); !slices.Equal(s.Members(), to) {
		t.Error(s.Members())
	}
	must(t)(s.Move(7, []int{1, 2}))
	for range 6 {
		s.Tick()
	}
	wantOuts(t, s, "7 e201")
	if !s.Idle() || !slices.Equal(s.Members(), to) {
		t.Error("not given up")
	}
}

func TestTakingOver(t *testing.T) {
	s := fresh1(t)
	out := must(t)(s.Full(3, 2))
	if len(out) != 24 || out[0].Id != 2 {
		t.Error(len(out), out[0].Id)
	}
	if _, e := s.Full(4, 2); e != api.ErrBusy {
		t.Error(e)
	}
	for _, kind := range []int{api.MCutOK, api.MTell} {
		if len(s.Handle(far(kind, 2, api.Msg{Id: 1, Vec: []int64{0, 0, 0}, Path: []int{1}}))) != 0 {
			t.Error("there is no pull yet")
		}
	}
	own := rec("k", ver(1, 1))
	puts := answerScans(s, out, own)
	wantLines(t, puts, toEach(keepersOf(conf(), "k"), "MPut id=10 k:1.1")...)
	wantLines(t, answerPuts(s, puts, 0), "2.0 MCut id=1")
	wantLines(t, s.Tick(), "2.0 MCut id=1")
	theirs := []api.Rec{rec("k", ver(1, 1)), rec("l", ver(2, 1))}
	cut, _ := pull.NewCut(1, []int64{0, 4, 1}, theirs)
	ok := far(api.MCutOK, 2, api.Msg{Id: 1, Vec: cut.Vec(), Hashes: cut.Open()})
	for _, change := range []func(m *api.Msg){func(m *api.Msg) { m.Id = 2 }, func(m *api.Msg) { m.From.Site = 3 }, func(m *api.Msg) { m.Vec = m.Vec[:2] }, func(m *api.Msg) { m.From.Node = 1 }} {
		m := ok
		change(&m)
		wantLines(t, s.Handle(m))
	}
	wants := s.Handle(ok)
	if len(wants) != 1 || wants[0].Kind != api.MWant || wants[0].Id != 1 || len(wants[0].Path) != 1 {
		t.Fatal(wants)
	}
	wantLines(t, s.Handle(ok))
	wantLines(t, s.Tick(), line(wants[0]))
	h, _, _ := cut.Want(wants[0].Path)
	wantLines(t, s.Handle(far(api.MTell, 2, api.Msg{Id: 9, Path: wants[0].Path, Hashes: h})))
	deep := s.Handle(far(api.MTell, 2, api.Msg{Id: 1, Path: wants[0].Path, Hashes: h}))
	if len(deep) != 1 || len(deep[0].Path) != 2 {
		t.Fatal(deep)
	}
	_, l, _ := cut.Want(deep[0].Path)
	s.Handle(far(api.MFar, 2, api.Msg{N: 70, Recs: []api.Rec{rec("z", ver(2, 3))}}))
	puts = s.Handle(far(api.MTell, 2, api.Msg{Id: 1, Path: deep[0].Path, Recs: l}))
	wantLines(t, puts, toEach(keepersOf(conf(), "l"), "MPut id=11 l:2.1")...)
	wantLines(t, s.Tick(), toEach(keepersOf(conf(), "l"), "MPut id=11 l:2.1")...)
	wantLines(t, answerPuts(s, puts, 0), "2.0 MDone id=1", "2.0 MFarOK n=70")
	wantOuts(t, s, "3")
	if !slices.Equal(s.Applied(), []int64{0, 4, 1}) || !s.Idle() || s.Waits() != 0 {
		t.Error(s.Applied())
	}
}

func TestATakingOverThatLastsTooLong(t *testing.T) {
	s := fresh1(t)
	out := must(t)(s.Full(3, 2))
	for range 5 {
		if len(s.Tick()) != 24 {
			t.Fatal("not asked again")
		}
	}
	wantLines(t, s.Tick())
	wantOuts(t, s, "3 e201")
	if !s.Idle() {
		t.Error("not idle")
	}
	out = must(t)(s.Full(4, 2))
	id := out[0].Id - 1
	wantLines(t, answerScans(s, out), fmt.Sprintf("2.0 MCut id=%d", id))
	for range 40 {
		wantLines(t, s.Tick(), fmt.Sprintf("2.0 MCut id=%d", id))
	}
	wantLines(t, s.Tick())
	wantOuts(t, s, "4 e201")
	if !s.Idle() {
		t.Error("not idle")
	}
	// One that waits for what is to be installed is given up with its job.
	out = must(t)(s.Full(5, 2))
	id = out[0].Id - 1
	answerScans(s, out)
	cut, _ := pull.NewCut(id, []int64{0, 1, 0}, []api.Rec{rec("l", ver(2, 1))})
	m := s.Handle(far(api.MCutOK, 2, api.Msg{Id: id, Vec: cut.Vec(), Hashes: cut.Open()}))[0]
	h, _, _ := cut.Want(m.Path)
	m = s.Handle(far(api.MTell, 2, api.Msg{Id: id, Path: m.Path, Hashes: h}))[0]
	_, l, _ := cut.Want(m.Path)
	if out = s.Handle(far(api.MTell, 2, api.Msg{Id: id, Path: m.Path, Recs: l})); len(out) != 3 {
		t.Error(out)
	}
	for range 40 {
		s.Tick()
	}
	wantOuts(t, s)
	wantLines(t, s.Tick(), line(out[0]), line(out[1]), line(out[2])) // the job is ticked ahead of the taking over
	wantOuts(t, s, "5 e201")
	if !s.Idle() || s.Applied()[1] != 0 {
		t.Error("not given up")
	}
}

func TestATakingOverThatEndsDuringAnotherJob(t *testing.T) {
	s := fresh1(t)
	answerScans(s, must(t)(s.Full(3, 2)))
	puts := must(t)(s.Put(4, nil, "k", "v", false))
	for range 41 {
		s.Tick()
	}
	wantOuts(t, s, "4 e201 1.1", "3 e201")
	if s.Idle() {
		t.Error("the write stays under way")
	}
	answerPuts(s, puts, 0)
	if !s.Idle() || s.Applied()[0] != 1 {
		t.Error(s.Applied())
	}
	// One's own records that are asked for so late that it ends meanwhile.
	puts = must(t)(s.Put(5, nil, "k", "v", false))
	s.Full(6, 2)
	for range 38 {
		s.Tick()
	}
	if out := answerPuts(s, puts, 0); len(out) != 24 {
		t.Fatal(len(out))
	}
	s.Tick()
	s.Tick()
	wantOuts(t, s, "5 e201 1.2")
	s.Tick()
	wantOuts(t, s, "6 e201")
	if !s.Idle() {
		t.Error("its job is over, too")
	}
}

func TestWhichJobIsFirst(t *testing.T) {
	c := conf()
	c.Wait = 9
	s := open(t, c, 1, 0, disk.New(10000))
	list := keepersOf(c, "k")
	s.Put(1, nil, "k", "v", false)
	s.Put(2, nil, "k", "v", false)
	s.Handle(far(api.MFar, 2, api.Msg{N: 1, Recs: []api.Rec{rec("k", ver(2, 1))}}))
	s.Full(3, 2)
	s.Heal(4, 4, 0)
	s.Handle(far(api.MCut, 2, api.Msg{Id: 6}))
	s.Handle(ack(1, list[0]))
	out := s.Handle(ack(1, list[1]))
	if len(out) != 24 {
		t.Fatal("the cut is first", len(out))
	}
	out = answerScans(s, out)
	if len(out) != 2 || out[0].Kind != api.MCutOK || out[1].Kind != api.MBless {
		t.Fatal("then the healing", out)
	}
	out = s.Handle(ack(out[1].Id, 4))
	if len(out) != 24 {
		t.Fatal("then one's own records", len(out))
	}
	out = answerScans(s, out)
	if len(out) != 4 || out[0].Kind != api.MCut || out[1].Recs[0].Vers[0].Dot != (api.Dot{S: 1, N: 2}) {
		t.Fatal("then the next put", out)
	}
	out = answerPuts(s, out, 0)
	if len(out) != 3 || out[0].Recs[0].Vers[0].Dot != (api.Dot{S: 2, N: 1}) {
		t.Fatal("then the far write", out)
	}
	wantLines(t, answerPuts(s, out, 0), "2.0 MFarOK n=1")
	wantOuts(t, s, "1 1.1 t", "4", "2 1.2 t")
	if s.Idle() {
		t.Error("the taking over goes on")
	}
}

func TestSitesMeet(t *testing.T) {
	b := newBench(t, conf())
	b.put(1, "k")
	b.put(3, "k")
	b.put(2, "l")
	b.tick(4)
	for s := 1; s <= 3; s++ {
		if got := b.told(s, "k"); got != "1:1 3:1" {
			t.Error(s, got)
		}
		if b.told(s, "l") != "2:1" || !slices.Equal(b.gates[s].Applied(), []int64{1, 1, 1}) || b.gates[s].Entries() != 0 || !b.gates[s].Idle() {
			t.Error(s, b.gates[s].Applied(), b.gates[s].Entries())
		}
	}
	b.gates[2].Outcomes()
	b.run(b.gates[2].Get(5, nil, "k"))
	o := b.gates[2].Outcomes()
	b.run(b.gates[2].Put(6, o[0].Token, "k", "w", false))
	b.tick(3)
	for s := 1; s <= 3; s++ {
		if got := b.told(s, "k"); got != "2:2" {
			t.Error(s, got)
		}
	}
}

func TestWhatWasDroppedIsTakenOver(t *testing.T) {
	b := newBench(t, conf())
	parted := true
	b.drop = func(m api.Msg) bool { return parted && m.From.Site != m.To.Site }
	for i := range 8 {
		b.put(1, fmt.Sprint("key", i))
	}
	b.put(2, "own")
	b.tick(2)
	if !slices.Equal(b.gates[1].Gaps(), []int{2}) || b.gates[1].Entries() != 3 {
		t.Error(b.gates[1].Gaps(), b.gates[1].Entries())
	}
	parted = false
	b.tick(3)
	if b.gates[2].Applied()[0] != 0 {
		t.Error("a gap is passed over by nothing but a taking over")
	}
	b.run(b.gates[2].Full(9, 1))
	b.tick(3)
	for s := 1; s <= 3; s++ {
		if !slices.Equal(b.gates[s].Applied(), []int64{8, 1, 0}) && s != 3 {
			t.Error(s, b.gates[s].Applied())
		}
	}
	for i := range 8 {
		if got := b.told(2, fmt.Sprint("key", i)); got != fmt.Sprintf("1:%d", i+1) {
			t.Error(i, got)
		}
	}
	if len(b.gates[1].Gaps()) != 0 || b.told(2, "own") != "2:1" {
		t.Error(b.gates[1].Gaps())
	}
	// Site 3 lacks what site 2 has taken over: it takes it over in turn.
	b.run(b.gates[3].Full(9, 2))
	b.tick(3)
	if !slices.Equal(b.gates[3].Applied(), []int64{8, 1, 0}) || b.told(3, "key0") != "1:1" {
		t.Error(b.gates[3].Applied())
	}
}

func TestANodeThatIsDownHasHints(t *testing.T) {
	c := conf()
	c.Members, c.N = []int{1, 2, 3, 4}, 3
	c.W = 3
	c.R = 1
	b := newBench(t, c)
	list := ring.List(c.Members, ring.Part("k"), 3)
	rest := ring.Rest(c.Members, ring.Part("k"), 3)
	away := api.Addr{Site: 1, Node: list[1]}
	b.down[away] = true
	b.put(1, "k")
	b.tick(2)
	if b.gates[1].Applied()[0] != 0 || len(b.nodes[api.Addr{Site: 1, Node: rest[0]}].Hints(list[1])) != 1 {
		t.Error("no hint")
	}
	b.down[away] = false
	b.tick(1)
	if b.gates[1].Applied()[0] != 1 || len(b.nodes[away].Recs(-1)) != 1 {
		t.Error("not done")
	}
	b.tick(1)
	if len(b.nodes[api.Addr{Site: 1, Node: rest[0]}].Hints(list[1])) != 0 {
		t.Error("the hint is kept")
	}
}

func TestMembersThatAreTooFew(t *testing.T) {
	// The queue's log may tell members that another configuration had.
	d := disk.New(10000)
	q, _ := queue.Open(d, 16, queue.Conf{Self: 1, Sites: 3, Links: []int{2}, Cap: 3, Members: []int{1}})
	q.SetMembers([]int{1})
	s := open(t, conf(), 1, 0, d)
	s.Get(1, nil, "k")
	s.Put(2, nil, "k", "v", false)
	s.Heal(3, 1, 0)
	s.Full(4, 2)
	s.Handle(far(api.MCut, 2, api.Msg{Id: 5}))
	for range 60 {
		s.Tick()
	}
	s.Handle(got(1, 1, "k"))
	s.Handle(ack(2, 1))
	s.Handle(scanned(3, 1, 0))
}

func TestNothingIsKept(t *testing.T) {
	c := conf()
	s := open(t, c, 1, 0, disk.New(10000))
	c.Members[0], c.Links[0] = 4, [2]int{1, 3}
	if !slices.Equal(s.Members(), []int{1, 2, 3}) {
		t.Error(s.Members())
	}
	list := keepersOf(conf(), "k")
	tok := token(t)
	out := must(t)(s.Put(1, tok, "k", "v", false))
	tok[0]++
	out[0].Recs[0].Vers[0].Val = "w"
	if out[1].Recs[0].Vers[0].Val != "v" {
		t.Error("two messages share a record")
	}
	if r, _ := s.Under(); r.Vers[0].Val != "v" {
		t.Error("kept")
	}
	s.Handle(ack(1, list[0]))
	s.Handle(ack(1, list[1]))
	s.Get(2, nil, "k")
	in := got(2, list[0], "k", ver(2, 1, sp(1, 1, 1)))
	s.Handle(in)
	in.Recs[0].Vers[0].Past[0].To = 9
	s.Handle(got(2, list[1], "k"))
	o := s.Outcomes()[1]
	if !vers.Same(o.Vers, []api.Ver{ver(2, 1, sp(1, 1, 1))}) {
		t.Error(o)
	}
	if len(s.Outcomes()) != 0 {
		t.Error("told twice")
	}
}
