package world_test

import (
	"fmt"
	"reflect"
	"slices"
	"strings"
	"testing"

	"firth/api"
	"firth/code"
	"firth/seal"
	. "firth/world"
)

func small() api.Conf {
	return api.Conf{Sites: 1, Nodes: 1, Members: []int{1}, N: 1, R: 1, W: 1, Group: 7, Secret: "s", Room: 1 << 20, Seg: 256, Cap: 8, Pend: 8, Wait: 8, Timeout: 6, HintAfter: 2}
}

func two() api.Conf {
	c := small()
	c.Sites, c.Links, c.Nodes, c.Members, c.N, c.R, c.W = 2, [][2]int{{1, 2}}, 3, []int{1, 2, 3}, 3, 2, 2
	return c
}

func at(s, n int) api.Addr { return api.Addr{Site: s, Node: n} }

type driver struct {
	*World
	t *testing.T
}

func drive(t *testing.T, c api.Conf) driver {
	t.Helper()
	w, e := New(c)
	if e != 0 {
		t.Fatal(e)
	}
	return driver{w, t}
}

// does lets an event happen; only what is opened or asked has a number.
func (d driver) does(e Event) (api.Errno, int) {
	d.t.Helper()
	err, n := d.Do(e)
	switch e.Kind {
	case Open, Get, Put, Del, Try, Full, Move, Heal:
	default:
		if n != 0 {
			d.t.Errorf("%+v: the number %d", e, n)
		}
	}
	return err, n
}

// ok does an event that must go well, and tells its number.
func (d driver) ok(e Event) int {
	d.t.Helper()
	err, n := d.does(e)
	if err != 0 {
		d.t.Fatalf("%+v: %d", e, err)
	}
	return n
}

// fails does an event that must be answered by an error; where it makes an entry, its number is told.
func (d driver) fails(e Event, want api.Errno) int {
	d.t.Helper()
	err, n := d.does(e)
	if err != want {
		d.t.Errorf("%+v: %d, not %d", e, err, want)
	}
	return n
}

// arrive lets all arrive that is under way, and all that follows.
func (d driver) arrive() {
	for d.Packets() > 0 {
		d.Do(Event{Kind: Deliver})
	}
}

func (d driver) ticks(n int) {
	for range n {
		d.Do(Event{Kind: Tick})
		d.arrive()
	}
}

func (d driver) session(s int) int { return d.ok(Event{Kind: Open, Site: s}) }

// put writes, and lets all arrive.
func (d driver) put(sess int, key string) Entry {
	d.t.Helper()
	n := d.ok(Event{Kind: Put, Sess: sess, Key: key, Val: "v"})
	d.arrive()
	return d.History()[n-1]
}

func (d driver) get(sess int, key string) string {
	d.t.Helper()
	n := d.ok(Event{Kind: Get, Sess: sess, Key: key})
	d.arrive()
	return d.told(n)
}

// told tells what came of a reading.
func (d driver) told(op int) string {
	e := d.History()[op-1]
	if e.Ended == 0 || e.Err != 0 {
		return fmt.Sprintf("e%d", e.Err)
	}
	var out []string
	for _, v := range e.Vers {
		text := fmt.Sprintf("%d:%d", v.Dot.S, v.Dot.N)
		if v.Gone {
			text += "-"
		}
		out = append(out, text)
	}
	return strings.Join(out, " ")
}

func (d driver) want(what, got, want string) {
	d.t.Helper()
	if got != want {
		d.t.Errorf("%s: %q, not %q", what, got, want)
	}
}

func TestKinds(t *testing.T) {
	if Open != 1 || Get != 2 || Deliver != 7 || Junk != 11 || Crash != 13 || Part != 16 || Trim != 21 {
		t.Error("numbers")
	}
}

func TestNew(t *testing.T) {
	for i, change := range []func(c *api.Conf){func(c *api.Conf) { c.Sites = 17 }, func(c *api.Conf) { c.Secret = "" }, func(c *api.Conf) { c.R = 0 }} {
		c := two()
		change(&c)
		if w, e := New(c); w != nil || e != api.ErrConf {
			t.Error(i, e)
		}
	}
	c := two()
	c.Room = 0
	if w, e := New(c); w != nil || e != api.ErrFull {
		t.Error(e)
	}
	w, _ := New(two())
	if !w.Up(at(1, 0)) || !w.Up(at(2, 3)) || w.Up(at(1, 4)) || w.Up(at(3, 0)) || w.Up(at(0, 0)) || w.Up(at(1, -1)) {
		t.Error("Up")
	}
	if !slices.Equal(w.Applied(2), []int64{0, 0}) || w.Applied(3) != nil || w.Gaps(0) != nil || w.Members(-1) != nil || !slices.Equal(w.Members(1), []int{1, 2, 3}) || !w.Idle(1) || w.Idle(3) {
		t.Error("at first")
	}
	if l, ok := w.Held(at(1, 1)); len(l) != 0 || !ok {
		t.Error(l, ok)
	}
	for _, a := range []api.Addr{at(1, 0), at(1, 4), at(3, 1)} {
		if l, ok := w.Held(a); l != nil || ok {
			t.Error(a)
		}
	}
	if w.Packets() != 0 || len(w.History()) != 0 || w.Token(1) != nil {
		t.Error("at first")
	}
	if _, ok := w.Look(0); ok {
		t.Error("Look")
	}
}

func TestTheChaptersExample(t *testing.T) {
	d := drive(t, small())
	if d.session(1) != 1 || d.ok(Event{Kind: Put, Sess: 1, Key: "k", Val: "v"}) != 1 {
		t.Error("numbers")
	}
	if e := d.History()[0]; e.Ended != 0 || e.Dot != (api.Dot{S: 1, N: 1}) || e.Begun != 2 {
		t.Errorf("%+v", e)
	}
	d.ok(Event{Kind: Deliver})
	d.ok(Event{Kind: Deliver})
	want := Entry{Op: 1, Kind: Put, Sess: 1, Site: 1, Key: "k", Val: "v", Dot: api.Dot{S: 1, N: 1}, Begun: 2, Ended: 4}
	if e := d.History()[0]; !reflect.DeepEqual(e, want) {
		t.Errorf("%+v", e)
	}
	d.ok(Event{Kind: Crash, Site: 1})
	if d.fails(Event{Kind: Get, Sess: 1, Key: "k"}, api.ErrDown) != 2 {
		t.Error("Op 2")
	}
	want = Entry{Op: 2, Kind: Get, Sess: 1, Site: 1, Key: "k", Err: api.ErrDown, Begun: 6, Ended: 6}
	if e := d.History()[1]; !reflect.DeepEqual(e, want) {
		t.Errorf("%+v", e)
	}
}

// The ten examples of the whole.

func TestExample1And2(t *testing.T) {
	d := drive(t, two())
	a, b := d.session(1), d.session(2)
	if e := d.put(a, "k"); e.Dot != (api.Dot{S: 1, N: 1}) || e.Err != 0 || e.Ended == 0 {
		t.Errorf("%+v", e)
	}
	d.ok(Event{Kind: Go, Sess: a, Site: 2})
	n := d.fails(Event{Kind: Get, Sess: a, Key: "k"}, api.ErrNotYet)
	if e := d.History()[n-1]; e.Err != api.ErrNotYet || e.Ended != e.Begun || e.Site != 2 {
		t.Errorf("%+v", e)
	}
	d.want("ahead of it", d.get(b, "k"), "")
	d.ticks(1)
	if !slices.Equal(d.Applied(2), []int64{1, 0}) {
		t.Error(d.Applied(2))
	}
	d.want("a", d.get(a, "k"), "1:1")
	d.want("b", d.get(b, "k"), "1:1")
}

func TestExample3To5(t *testing.T) {
	d := drive(t, two())
	a, b := d.session(1), d.session(2)
	d.put(a, "k")
	d.put(b, "k")
	d.ticks(2)
	for _, s := range []int{a, b, d.session(1), d.session(2)} {
		d.want("side by side", d.get(s, "k"), "1:1 2:1")
	}
	if e := d.put(b, "k"); e.Dot != (api.Dot{S: 2, N: 2}) {
		t.Errorf("%+v", e)
	}
	d.ticks(2)
	for _, s := range []int{a, b, d.session(1), d.session(2)} {
		d.want("in their place", d.get(s, "k"), "2:2")
	}
	n := d.ok(Event{Kind: Del, Sess: a, Key: "k", Val: strings.Repeat("x", 999)})
	d.arrive()
	if e := d.History()[n-1]; e.Val != "" || e.Dot != (api.Dot{S: 1, N: 2}) {
		t.Errorf("%+v", e)
	}
	d.ticks(2)
	d.want("gone", d.get(a, "k"), "1:2-")
	d.want("gone", d.get(b, "k"), "1:2-")
}

func TestExample6(t *testing.T) {
	c := two()
	c.Nodes, c.Members = 4, []int{1, 2, 3, 4}
	d := drive(t, c)
	a := d.session(1)
	d.ok(Event{Kind: Crash, Site: 1, Node: 2})
	for i := range 12 {
		if e := d.put(a, fmt.Sprint("key", i)); e.Err != 0 || e.Ended == 0 {
			t.Errorf("%+v", e)
		}
	}
	// With W of 3 the third one is waited for; hints are kept for it meanwhile.
	c.W, c.R = 3, 1
	d = drive(t, c)
	a = d.session(1)
	d.ok(Event{Kind: Crash, Site: 1, Node: 2})
	var asked []int
	for i := range 12 {
		s := d.session(1)
		asked = append(asked, d.ok(Event{Kind: Put, Sess: s, Key: fmt.Sprint("key", i), Val: "v"}))
		d.arrive()
		if d.History()[asked[i]-1].Ended == 0 {
			break
		}
	}
	d.ticks(2)
	d.ok(Event{Kind: Start, Site: 1, Node: 2})
	d.ticks(2)
	for _, op := range asked {
		if e := d.History()[op-1]; e.Ended == 0 || e.Err != 0 {
			t.Errorf("%+v", e)
		}
	}
	held, ok := d.Held(at(1, 2))
	if !ok || len(held) == 0 {
		t.Error(held)
	}
}

func TestExample7(t *testing.T) {
	c := two()
	c.R, c.W = 3, 1
	d := drive(t, c)
	a := d.session(1)
	d.put(a, "k")
	d.ok(Event{Kind: Wipe, Site: 1, Node: 2})
	if d.Up(at(1, 2)) {
		t.Error("up")
	}
	d.ok(Event{Kind: Start, Site: 1, Node: 2})
	if l, ok := d.Held(at(1, 2)); len(l) != 0 || ok {
		t.Error(l, ok)
	}
	n := d.ok(Event{Kind: Get, Sess: a, Key: "k"})
	d.arrive()
	d.want("it answers no reading", d.told(n), "e0")
	d.ticks(7)
	d.want("timeout", d.told(n), "e201")
	// Of R 3 the healing itself can't read; of R 2 it can.
	d = drive(t, two())
	a = d.session(1)
	d.put(a, "k")
	d.ok(Event{Kind: Wipe, Site: 1, Node: 2})
	d.ok(Event{Kind: Start, Site: 1, Node: 2})
	n = d.ok(Event{Kind: Heal, Site: 1, Node: 2})
	d.arrive()
	if e := d.History()[n-1]; e.Ended == 0 || e.Err != 0 || e.Kind != Heal || e.Sess != 0 {
		t.Errorf("%+v", e)
	}
	if l, ok := d.Held(at(1, 2)); len(l) != 1 || !ok {
		t.Error(l, ok)
	}
}

func TestExample8(t *testing.T) {
	c := two()
	c.Cap = 1
	d := drive(t, c)
	a, b := d.session(1), d.session(2)
	d.ok(Event{Kind: Part, A: at(1, 0), B: at(2, 0), On: true})
	d.put(a, "k")
	d.put(a, "l")
	if !slices.Equal(d.Gaps(1), []int{2}) || d.Idle(1) {
		t.Error(d.Gaps(1))
	}
	d.ok(Event{Kind: Part, A: at(2, 0), B: at(1, 0)})
	d.ticks(3)
	if !slices.Equal(d.Applied(2), []int64{0, 0}) {
		t.Error("passed over", d.Applied(2))
	}
	n := d.ok(Event{Kind: Full, Site: 2, I: 1})
	d.arrive()
	if e := d.History()[n-1]; e.Ended == 0 || e.Err != 0 || !slices.Equal(d.Applied(2), []int64{2, 0}) || len(d.Gaps(1)) != 0 {
		t.Errorf("%+v", e)
	}
	d.ticks(1)
	d.want("k", d.get(b, "k"), "1:1")
	d.want("l", d.get(b, "l"), "1:2")
	if !d.Idle(1) || !d.Idle(2) {
		t.Error("not idle")
	}
}

func TestExample9(t *testing.T) {
	d := drive(t, two())
	foreign, _ := seal.Seal("s", 8, nil)
	forged, _ := seal.Seal("s", 7, nil)
	forged[len(forged)-1] ^= 1
	for i, x := range []struct {
		data []byte
		e    api.Errno
	}{{foreign, api.ErrForeign}, {forged, api.ErrForged}, {[]byte{3}, api.ErrToken}} {
		n := d.fails(Event{Kind: Try, Site: 1, Key: "k", Data: x.data}, x.e)
		if e := d.History()[n-1]; n != i+1 || e.Err != x.e || e.Kind != Try || e.Sess != 0 || e.Key != "k" || e.Ended != i+1 {
			t.Errorf("%+v", e)
		}
	}
	n := d.ok(Event{Kind: Try, Site: 2, Key: "k"})
	d.arrive()
	d.want("no token", d.told(n), "")
	if d.fails(Event{Kind: Try, Site: 3, Key: "k"}, api.ErrArg) != 0 || len(d.History()) != 4 {
		t.Error("an entry")
	}
}

func TestExample10(t *testing.T) {
	d := drive(t, two())
	a := d.session(1)
	n := d.ok(Event{Kind: Put, Sess: a, Key: "k", Val: "v"})
	d.ok(Event{Kind: Crash, Site: 1})
	if e := d.History()[n-1]; e.Err != api.ErrDown || e.Ended != 3 || e.Dot != (api.Dot{S: 1, N: 1}) {
		t.Errorf("%+v", e)
	}
	if d.Applied(1) != nil || d.Idle(1) || d.Up(at(1, 0)) {
		t.Error("up")
	}
	d.ok(Event{Kind: Start, Site: 1})
	d.ticks(1)
	if !slices.Equal(d.Applied(1), []int64{1, 0}) {
		t.Error(d.Applied(1))
	}
	d.want("it is done", d.get(a, "k"), "1:1")
	if e := d.put(a, "k"); e.Dot != (api.Dot{S: 1, N: 2}) {
		t.Errorf("%+v", e)
	}
}

// The events, one by one.

func TestSessionsAsk(t *testing.T) {
	d := drive(t, two())
	for _, s := range []int{0, 3} {
		if d.fails(Event{Kind: Open, Site: s}, api.ErrArg) != 0 {
			t.Error(s)
		}
	}
	a := d.session(1)
	for _, kind := range []int{Get, Put, Del} {
		if d.fails(Event{Kind: kind, Sess: 9, Key: "k"}, api.ErrSession) != 0 || len(d.History()) != 0 {
			t.Error("an entry")
		}
	}
	if d.fails(Event{Kind: Go, Sess: 9, Site: 1}, api.ErrSession)+d.fails(Event{Kind: Go, Sess: a, Site: 3}, api.ErrArg) != 0 {
		t.Error("numbers")
	}
	n := d.fails(Event{Kind: Put, Sess: a, Key: "", Val: "x"}, api.ErrArg)
	if e := d.History()[0]; n != 1 || e.Err != api.ErrArg || e.Val != "x" || e.Ended != e.Begun || e.Begun != 9 {
		t.Errorf("%+v", e)
	}
	d.ok(Event{Kind: Get, Sess: a, Key: "k", Val: "ignored"})
	if e := d.History()[1]; e.Val != "" {
		t.Errorf("%+v", e)
	}
	d.fails(Event{Kind: Get, Sess: a, Key: "k"}, api.ErrBusy)
	d.fails(Event{Kind: Go, Sess: a, Site: 2}, api.ErrBusy)
	d.arrive()
	d.put(a, "k")
	if len(d.Token(a)) == 0 || d.Token(9) != nil {
		t.Error("no token")
	}
	was := d.Token(a)
	d.ok(Event{Kind: Get, Sess: a, Key: "k"})
	d.ok(Event{Kind: Crash, Site: 1})
	if !slices.Equal(d.Token(a), was) || len(d.History()) != 4 {
		t.Error("its token stays")
	}
	d.ok(Event{Kind: Go, Sess: a, Site: 2})
	d.fails(Event{Kind: Get, Sess: a, Key: "k"}, api.ErrNotYet)
	for range 20 {
		d.session(2)
	}
	if d.session(2) != 22 {
		t.Error("numbers")
	}
}

func TestWhatNobodyAsks(t *testing.T) {
	d := drive(t, two())
	for _, kind := range []int{Try, Full, Move, Heal} {
		if d.fails(Event{Kind: kind, Site: 3}, api.ErrArg) != 0 {
			t.Error(kind)
		}
	}
	if d.fails(Event{Kind: Full, Site: 1, I: 1, Key: "key"}, api.ErrArg) != 1 {
		t.Error("Full")
	}
	if e := d.History()[0]; e.Err != api.ErrArg || e.Kind != Full || e.Key != "key" || e.Site != 1 {
		t.Errorf("%+v", e)
	}
	d.fails(Event{Kind: Move, Site: 1, List: []int{1}}, api.ErrMembers)
	d.fails(Event{Kind: Heal, Site: 1, Node: 4}, api.ErrArg)
	d.fails(Event{Kind: Heal, Site: 1, Node: 0}, api.ErrArg)
	n := d.ok(Event{Kind: Full, Site: 1, I: 2})
	d.fails(Event{Kind: Full, Site: 1, I: 2}, api.ErrBusy)
	d.ok(Event{Kind: Crash, Site: 1})
	if e := d.History()[n-1]; e.Err != api.ErrDown || e.Ended == 0 {
		t.Errorf("%+v", e)
	}
	if d.fails(Event{Kind: Move, Site: 1, List: []int{1, 2, 3}}, api.ErrDown) != 7 || d.History()[6].Err != api.ErrDown {
		t.Error("Move at a gate that is down")
	}
	d.ok(Event{Kind: Start, Site: 1})
	n = d.ok(Event{Kind: Move, Site: 1, List: []int{1, 2, 3}})
	if e := d.History()[n-1]; e.Ended != e.Begun || e.Err != 0 {
		t.Errorf("%+v", e)
	}
}

func TestMoving(t *testing.T) {
	c := two()
	c.Nodes, c.N = 5, 2
	c.Members, c.R, c.W = []int{1, 2}, 1, 2
	d := drive(t, c)
	a := d.session(1)
	for i := range 20 {
		d.put(a, fmt.Sprint("key", i))
	}
	n := d.ok(Event{Kind: Move, Site: 1, List: []int{3, 4, 5}})
	d.arrive()
	if e := d.History()[n-1]; e.Ended == 0 || e.Err != 0 || !slices.Equal(d.Members(1), []int{3, 4, 5}) || !slices.Equal(d.Members(2), []int{1, 2}) {
		t.Errorf("%+v", e)
	}
	d.ok(Event{Kind: Wipe, Site: 1, Node: 1})
	d.ok(Event{Kind: Wipe, Site: 1, Node: 2})
	for i := range 20 {
		d.want("moved", d.get(a, fmt.Sprint("key", i)), fmt.Sprintf("1:%d", i+1))
	}
}

func TestPackets(t *testing.T) {
	d := drive(t, two())
	for _, kind := range []int{Deliver, Lose, Copy, Flip} {
		for _, i := range []int{0, -1, 7} {
			d.fails(Event{Kind: kind, I: i}, api.ErrNone)
		}
	}
	a := d.session(1)
	d.ok(Event{Kind: Get, Sess: a, Key: "k"})
	if d.Packets() != 3 {
		t.Error(d.Packets())
	}
	p, ok := d.Look(1)
	m, e := code.Msg(p.Data)
	if !ok || e != 0 || m.Kind != api.MGet || m.From != p.From || m.To != p.To || p.From != at(1, 0) {
		t.Error(m, e)
	}
	d.ok(Event{Kind: Copy, I: 1})
	if q, _ := d.Look(3); !reflect.DeepEqual(p, q) {
		t.Error(q)
	}
	d.ok(Event{Kind: Lose, I: 1})
	d.fails(Event{Kind: Flip, I: 2, At: 999}, api.ErrNone)
	d.ok(Event{Kind: Flip, I: 2, At: 5, X: 1})
	d.fails(Event{Kind: Deliver, I: 2}, api.ErrSum)
	if d.Packets() != 2 {
		t.Error("it has arrived")
	}
	q, _ := d.Look(0)
	d.ok(Event{Kind: Crash, Site: 1, Node: q.To.Node})
	d.fails(Event{Kind: Deliver, I: 0}, api.ErrDown)
	if d.Packets() != 1 {
		t.Error("it is gone")
	}
}

func TestJunk(t *testing.T) {
	d := drive(t, two())
	for _, x := range [][2]api.Addr{{at(1, 0), at(3, 0)}, {at(1, 4), at(1, 0)}, {at(0, 0), at(1, 0)}} {
		d.fails(Event{Kind: Junk, A: x[0], B: x[1], Data: []byte{1}}, api.ErrArg)
		d.fails(Event{Kind: Part, A: x[0], B: x[1], On: true}, api.ErrArg)
	}
	put, _ := code.PutMsg(api.Msg{Kind: api.MPut, From: at(1, 0), To: at(1, 1), Recs: []api.Rec{{Key: "k", Vers: []api.Ver{{Dot: api.Dot{S: 1, N: 1}}}}}})
	d.ok(Event{Kind: Junk, A: at(1, 0), B: at(1, 2), Data: put})
	d.ok(Event{Kind: Junk, A: at(2, 3), B: at(1, 1), Data: put})
	d.ok(Event{Kind: Junk, A: at(1, 0), B: at(1, 0), Data: nil})
	d.ok(Event{Kind: Junk, A: at(1, 0), B: at(1, 0), Data: append(slices.Clone(put), 0)})
	p, _ := d.Look(1)
	if p.From != at(2, 3) || p.To != at(1, 1) || !slices.Equal(p.Data, put) {
		t.Error(p)
	}
	d.ok(Event{Kind: Deliver})
	if d.Packets() != 3 {
		t.Error("a message to another place is answered")
	}
	d.ok(Event{Kind: Deliver})
	if l, _ := d.Held(at(1, 1)); len(l) != 1 {
		t.Error(l)
	}
	d.fails(Event{Kind: Deliver}, api.ErrShort)
	d.fails(Event{Kind: Deliver}, api.ErrForm)
	// The answer went to whom the message said.
	if p, _ := d.Look(0); d.Packets() != 1 || p.To != at(1, 0) {
		t.Error(p)
	}
	d.arrive()
	for range api.MaxPackets {
		d.ok(Event{Kind: Junk, A: at(1, 0), B: at(1, 1)})
	}
	d.fails(Event{Kind: Junk, A: at(1, 0), B: at(1, 1)}, api.ErrFull)
}

// What isn't right is refused by its name, and changes nothing.
func TestBytesThatAreNoMessage(t *testing.T) {
	d := drive(t, two())
	a := d.session(1)
	d.put(a, "k")
	d.ticks(2)
	state := func() string {
		text := fmt.Sprint(d.Applied(1), d.Applied(2), d.Idle(1), d.Idle(2), d.Packets(), len(d.History()))
		for _, x := range []api.Addr{at(1, 1), at(1, 2), at(1, 3), at(2, 1), at(2, 2), at(2, 3)} {
			l, ok := d.Held(x)
			text += fmt.Sprint(l, ok)
		}
		return text
	}
	was := state()
	good, _ := code.PutMsg(api.Msg{Kind: api.MPut, From: at(1, 0), To: at(1, 1), Recs: []api.Rec{{Key: "x", Vers: []api.Ver{{Dot: api.Dot{S: 1, N: 9}}}}}})
	var list [][]byte
	for cut := range good {
		list = append(list, good[:cut])
		turned := slices.Clone(good)
		turned[cut] ^= 64
		list = append(list, turned)
	}
	list = append(list, append(slices.Clone(good), 0), []byte{255, 255, 255, 255, 255, 255, 255, 255, 255}, []byte{128, 0})
	for i, b := range list {
		for _, to := range []api.Addr{at(1, 0), at(1, 1), at(2, 3)} {
			d.ok(Event{Kind: Junk, A: at(1, 0), B: to, Data: b})
			if err, _ := d.Do(Event{Kind: Deliver}); err != api.ErrForm && err != api.ErrLong && err != api.ErrShort && err != api.ErrSum {
				t.Error(i, err)
			}
		}
	}
	if state() != was {
		t.Error("changed")
	}
}

func TestParting(t *testing.T) {
	d := drive(t, small())
	a := d.session(1)
	d.ok(Event{Kind: Part, A: at(1, 1), B: at(1, 0), On: true})
	n := d.ok(Event{Kind: Get, Sess: a, Key: "k"})
	d.fails(Event{Kind: Deliver}, api.ErrNone)
	if d.Packets() != 0 {
		t.Error("it is lost")
	}
	d.ok(Event{Kind: Part, A: at(1, 0), B: at(1, 1)})
	d.ticks(1)
	d.want("asked again", d.told(n), "")
}

func TestUpAndDown(t *testing.T) {
	d := drive(t, two())
	for _, a := range []api.Addr{at(3, 0), at(1, 4), at(0, 1), at(1, -1)} {
		for _, kind := range []int{Crash, Start, Wipe, Trim, Mend} {
			d.fails(Event{Kind: kind, Site: a.Site, Node: a.Node}, api.ErrArg)
		}
	}
	d.fails(Event{Kind: Wipe, Site: 1}, api.ErrArg)
	d.fails(Event{Kind: Mend, Site: 1, I: 1}, api.ErrArg)
	for _, a := range []api.Addr{at(1, 0), at(1, 2)} {
		d.fails(Event{Kind: Start, Site: a.Site, Node: a.Node}, api.ErrBusy)
		d.ok(Event{Kind: Trim, Site: a.Site, Node: a.Node})
		d.ok(Event{Kind: Crash, Site: a.Site, Node: a.Node})
		if d.Up(a) {
			t.Error(a)
		}
		d.fails(Event{Kind: Crash, Site: a.Site, Node: a.Node}, api.ErrDown)
		d.fails(Event{Kind: Trim, Site: a.Site, Node: a.Node}, api.ErrDown)
	}
	d.fails(Event{Kind: Mend, Site: 1, Node: 2, I: 1}, api.ErrDown)
	d.ok(Event{Kind: Wipe, Site: 1, Node: 2})
	d.ok(Event{Kind: Start, Site: 1, Node: 2})
	d.ok(Event{Kind: Start, Site: 1})
	if l, ok := d.Held(at(1, 2)); l != nil || ok {
		t.Error("intact")
	}
	a := d.session(1)
	d.ok(Event{Kind: Get, Sess: a, Key: "k"})
	p, _ := d.Look(0)
	if m, _ := code.Msg(p.Data); m.Id != 1<<32+1 {
		t.Error("the boot is one higher", m.Id)
	}
}

func TestWhatACrashKeeps(t *testing.T) {
	for keep, idle := range []bool{false, true} {
		d := drive(t, two())
		d.put(d.session(1), "k")
		d.ticks(1)
		if !d.Idle(1) {
			t.Fatal("not acknowledged")
		}
		// The acknowledgement was written down, but isn't safe yet.
		d.ok(Event{Kind: Crash, Site: 1, Keep: keep, Torn: 3})
		d.ok(Event{Kind: Start, Site: 1})
		if d.Idle(1) != idle || !slices.Equal(d.Applied(1), []int64{1, 0}) {
			t.Error(keep, d.Idle(1), d.Applied(1))
		}
		d.ticks(1)
		if !d.Idle(1) {
			t.Error("it is acknowledged again")
		}
	}
}

func TestLives(t *testing.T) {
	d := drive(t, two())
	d.ok(Event{Kind: Heal, Site: 1, Node: 2})
	n := d.ok(Event{Kind: Heal, Site: 2, Node: 2})
	d.ok(Event{Kind: Wipe, Site: 2, Node: 2})
	d.ok(Event{Kind: Start, Site: 2, Node: 2})
	d.arrive()
	if _, ok := d.Held(at(2, 2)); ok || d.History()[n-1].Ended != 0 {
		t.Error("an elder life's healing made this one intact")
	}
	d.ticks(7)
	d.want("given up", d.told(n), "e201")
	n = d.ok(Event{Kind: Heal, Site: 2, Node: 2})
	d.arrive()
	if _, ok := d.Held(at(2, 2)); !ok || d.told(n) != "" {
		t.Error("not healed")
	}
}

func TestMending(t *testing.T) {
	c := small()
	c.Nodes, c.Members, c.N, c.R, c.W = 2, []int{1, 2}, 2, 2, 1
	d := drive(t, c)
	a := d.session(1)
	d.ok(Event{Kind: Part, A: at(1, 0), B: at(1, 2), On: true})
	for i := range 20 {
		d.put(a, fmt.Sprint("key", i))
	}
	if l, _ := d.Held(at(1, 2)); len(l) != 0 {
		t.Error(l)
	}
	for part := range api.Parts {
		d.ok(Event{Kind: Mend, Site: 1, Node: 2, I: 1, At: part})
		d.arrive()
	}
	x, _ := d.Held(at(1, 1))
	y, _ := d.Held(at(1, 2))
	if len(y) != 20 || !reflect.DeepEqual(x, y) {
		t.Error(len(x), len(y))
	}
	d.ok(Event{Kind: Mend, Site: 1, Node: 2, I: 2, At: 0})
	if d.Packets() != 0 {
		t.Error("with itself")
	}
}

func TestTickGoesRound(t *testing.T) {
	d := drive(t, two())
	a := d.session(1)
	d.put(a, "k")
	d.ok(Event{Kind: Tick})
	if p, _ := d.Look(0); d.Packets() != 1 || p.From != at(1, 0) || p.To != at(2, 0) {
		t.Error(p)
	}
	for _, kind := range []int{0, -1, 22, 1 << 40} {
		d.fails(Event{Kind: kind}, api.ErrEvent)
	}
	if d.fails(Event{Kind: Get, Sess: 9}, api.ErrSession) != 0 {
		t.Error("a number")
	}
}

func TestIdle(t *testing.T) {
	d := drive(t, two())
	a := d.session(1)
	d.put(a, "k")
	if d.Idle(1) || !d.Idle(2) {
		t.Error("an entry waits to be sent on")
	}
	d.ticks(1)
	if !d.Idle(1) || !d.Idle(2) {
		t.Error("not idle")
	}
	far, _ := code.PutMsg(api.Msg{Kind: api.MFar, From: at(2, 0), To: at(1, 0), N: 1, Recs: []api.Rec{{Key: "k", Vers: []api.Ver{{Dot: api.Dot{S: 2, N: 5}}}}}})
	d.ok(Event{Kind: Junk, A: at(2, 0), B: at(1, 0), Data: far})
	d.ok(Event{Kind: Deliver})
	if d.Idle(1) {
		t.Error("one waits in the inbox")
	}
	d.ok(Event{Kind: Get, Sess: a, Key: "k"})
}

func TestPutsInARow(t *testing.T) {
	d := drive(t, small())
	a, b, c := d.session(1), d.session(1), d.session(1)
	x := d.ok(Event{Kind: Put, Sess: a, Key: "k", Val: "1"})
	y := d.ok(Event{Kind: Del, Sess: b, Key: "k"})
	z := d.ok(Event{Kind: Put, Sess: c, Key: "k", Val: "3"})
	dots := func() string {
		var out []string
		for _, n := range []int{x, y, z} {
			out = append(out, fmt.Sprint(d.History()[n-1].Dot.N))
		}
		return strings.Join(out, " ")
	}
	d.want("issued", dots(), "1 0 0")
	d.ok(Event{Kind: Deliver})
	d.ok(Event{Kind: Deliver})
	d.want("the next one", dots(), "1 2 0")
	for range 6 {
		d.ok(Event{Kind: Tick})
	}
	d.want("waits still", d.told(z), "e0")
	d.ok(Event{Kind: Tick})
	if d.History()[y-1].Err != api.ErrTimeout || d.History()[z-1].Err != api.ErrTimeout {
		t.Error("timeouts")
	}
	d.arrive()
	d.want("the last one wasn't issued", dots(), "1 2 0")
	if !slices.Equal(d.Applied(1), []int64{2}) || d.put(a, "k").Dot.N != 3 {
		t.Error(d.Applied(1))
	}
}

func TestTheSameEventsMakeTheSameWorld(t *testing.T) {
	run := func() string {
		s := newSim(t, 5, 400)
		s.run()
		var out []string
		for _, e := range s.w.History() {
			out = append(out, fmt.Sprintf("%+v", e))
		}
		for i := range s.w.Packets() {
			p, _ := s.w.Look(i)
			out = append(out, fmt.Sprintf("%+v", p))
		}
		return strings.Join(out, "\n")
	}
	if run() != run() {
		t.Error("not the same")
	}
}

func TestNothingIsKept(t *testing.T) {
	c := two()
	d := drive(t, c)
	c.Members[0], c.Links[0] = 9, [2]int{9, 9}
	d.ok(Event{Kind: Crash, Site: 1})
	d.ok(Event{Kind: Start, Site: 1})
	a := d.session(1)
	d.put(a, "k")
	d.get(a, "k")
	d.History()[1].Vers[0].Val = "w"
	d.History()[0].Key = "x"
	if h := d.History(); h[1].Vers[0].Val != "v" || h[0].Key != "k" {
		t.Error("kept")
	}
	data := []byte{1, 2}
	d.ok(Event{Kind: Junk, A: at(1, 0), B: at(1, 1), Data: data})
	data[0] = 9
	if p, _ := d.Look(0); p.Data[0] != 1 {
		t.Error("kept")
	}
	list := []int{1, 2, 3}
	d.ok(Event{Kind: Move, Site: 1, List: list})
	list[0] = 7
	if !slices.Equal(d.Members(1), []int{1, 2, 3}) {
		t.Error("kept")
	}
}
