package site_test

import (
	"fmt"
	"slices"
	"strings"
	"testing"

	"firth/api"
	"firth/code"
	"firth/disk"
	"firth/node"
	"firth/num"
	"firth/ring"
	"firth/seal"
	. "firth/site"
)

func conf() api.Conf {
	return api.Conf{Sites: 3, Links: [][2]int{{1, 2}, {2, 3}}, Nodes: 4, Members: []int{1, 2, 3}, N: 3, R: 2, W: 2, Group: 7, Secret: "s",
		Room: 1 << 20, Seg: 256, Cap: 3, Pend: 2, Wait: 3, Timeout: 5, HintAfter: 2}
}

func sp(s int, from, to int64) api.Span { return api.Span{S: s, From: from, To: to} }

func ver(s int, n int64, past ...api.Span) api.Ver {
	return api.Ver{Dot: api.Dot{S: s, N: n}, Past: past, Val: "v"}
}

func rec(key string, l ...api.Ver) api.Rec { return api.Rec{Key: key, Vers: l} }

var names = [...]string{"", "MPut", "MPutOK", "MPutNo", "MGet", "MGot", "MScan", "MScanned", "MTree", "MLeaf", "MFar", "MFarOK", "MCut", "MCutOK", "MWant", "MTell", "MDone", "MBless"}

// line tells a message in short: where it goes, its kind, and the fields that aren't zero.
func line(m api.Msg) string {
	out := fmt.Sprintf("%d.%d %s", m.To.Site, m.To.Node, names[m.Kind])
	add := func(name string, is bool, value any) {
		if is {
			out += fmt.Sprintf(" %s=%v", name, value)
		}
	}
	add("id", m.Id != 0, m.Id)
	add("n", m.N != 0, m.N)
	add("for", m.For != 0, m.For)
	add("code", m.Code != 0, m.Code)
	add("key", m.Key != "", m.Key)
	for _, r := range m.Recs {
		out += " " + r.Key
		for _, v := range r.Vers {
			out += fmt.Sprintf(":%d.%d", v.Dot.S, v.Dot.N)
		}
	}
	add("vec", len(m.Vec) > 0, m.Vec)
	add("path", len(m.Path) > 0, m.Path)
	add("hashes", len(m.Hashes) > 0, len(m.Hashes))
	add("route", len(m.Route) > 0, m.Route)
	return out
}

func wantLines(t *testing.T, got []api.Msg, want ...string) {
	t.Helper()
	var lines []string
	for _, m := range got {
		lines = append(lines, line(m))
		if !code.RightMsg(m) || m.From.Node != 0 {
			t.Errorf("%+v", m)
		}
	}
	if !slices.Equal(lines, want) {
		t.Errorf("got\n%s\nnot\n%s", strings.Join(lines, "\n"), strings.Join(want, "\n"))
	}
}

func wantOuts(t *testing.T, s *Site, want ...string) []Outcome {
	t.Helper()
	list := s.Outcomes()
	var lines []string
	for _, o := range list {
		text := fmt.Sprintf("%d", o.Op)
		if o.Err != 0 {
			text += fmt.Sprintf(" e%d", o.Err)
		}
		if o.Dot.N != 0 {
			text += fmt.Sprintf(" %d.%d", o.Dot.S, o.Dot.N)
		}
		for _, v := range o.Vers {
			text += fmt.Sprintf(" v%d.%d", v.Dot.S, v.Dot.N)
		}
		if len(o.Token) > 0 {
			text += " t"
		}
		lines = append(lines, text)
	}
	if !slices.Equal(lines, want) {
		t.Errorf("got %q, not %q", lines, want)
	}
	return list
}

func open(t *testing.T, c api.Conf, self int, boot int64, d *disk.Disk) *Site {
	t.Helper()
	s, e := Open(c, self, boot, d)
	if e != 0 {
		t.Fatal(e)
	}
	return s
}

func fresh1(t *testing.T) *Site {
	t.Helper()
	return open(t, conf(), 1, 0, disk.New(1<<20))
}

// keepersOf tells who keeps a key.
func keepersOf(c api.Conf, key string) []int {
	return ring.List(c.Members, ring.Part(key), c.N)
}

func toEach(list []int, form string, args ...any) []string {
	var out []string
	for _, n := range list {
		out = append(out, fmt.Sprintf("1.%d ", n)+fmt.Sprintf(form, args...))
	}
	return out
}

func ack(id int64, n int) api.Msg {
	return api.Msg{Kind: api.MPutOK, From: api.Addr{Site: 1, Node: n}, To: api.Addr{Site: 1}, Id: id}
}

func got(id int64, n int, key string, l ...api.Ver) api.Msg {
	m := api.Msg{Kind: api.MGot, From: api.Addr{Site: 1, Node: n}, To: api.Addr{Site: 1}, Id: id, Key: key}
	if len(l) > 0 {
		m.Recs = []api.Rec{rec(key, l...)}
	}
	return m
}

func scanned(id int64, n, part int, list ...api.Rec) api.Msg {
	return api.Msg{Kind: api.MScanned, From: api.Addr{Site: 1, Node: n}, To: api.Addr{Site: 1}, Id: id, N: int64(part), Recs: list}
}

// far is what the gate of another site sends to site 1's.
func far(kind, from int, m api.Msg) api.Msg {
	m.Kind, m.From, m.To = kind, api.Addr{Site: from}, api.Addr{Site: 1}
	return m
}

func must(t *testing.T) func(l []api.Msg, e api.Errno) []api.Msg {
	return func(l []api.Msg, e api.Errno) []api.Msg {
		t.Helper()
		if e != 0 {
			t.Fatal(e)
		}
		return l
	}
}

func token(t *testing.T, l ...api.Span) []byte {
	t.Helper()
	b, e := seal.Seal("s", 7, l)
	if e != 0 {
		t.Fatal(e)
	}
	return b
}

// A bench is gates with their nodes; what is sent arrives in order.
type bench struct {
	t     *testing.T
	c     api.Conf
	disks map[api.Addr]*disk.Disk
	gates map[int]*Site
	nodes map[api.Addr]*node.Node
	down  map[api.Addr]bool
	drop  func(m api.Msg) bool
	boots int64
}

func newBench(t *testing.T, c api.Conf) *bench {
	b := &bench{t: t, c: c, disks: map[api.Addr]*disk.Disk{}, gates: map[int]*Site{}, nodes: map[api.Addr]*node.Node{}, down: map[api.Addr]bool{}}
	for s := 1; s <= c.Sites; s++ {
		for n := 0; n <= c.Nodes; n++ {
			a := api.Addr{Site: s, Node: n}
			b.disks[a] = disk.New(c.Room)
			if n > 0 {
				node.Format(b.disks[a])
				b.nodes[a], _ = node.Open(b.disks[a], a, c.Seg, 0)
			}
		}
		b.gates[s] = open(t, c, s, 0, b.disks[api.Addr{Site: s}])
	}
	return b
}

// run lets all arrive that is sent, and all that follows.
func (b *bench) run(way []api.Msg, e api.Errno) {
	b.t.Helper()
	if e != 0 {
		b.t.Fatal(e)
	}
	for len(way) > 0 {
		m := way[0]
		way = way[1:]
		if b.down[m.To] || b.drop != nil && b.drop(m) {
			continue
		}
		if m.To.Node == 0 {
			way = append(way, b.gates[m.To.Site].Handle(m)...)
		} else {
			way = append(way, b.nodes[m.To].Handle(m)...)
		}
	}
}

func (b *bench) tick(count int) {
	b.t.Helper()
	for range count {
		var way []api.Msg
		for s := 1; s <= b.c.Sites; s++ {
			for n := 0; n <= b.c.Nodes; n++ {
				a := api.Addr{Site: s, Node: n}
				switch {
				case b.down[a]:
				case n == 0:
					way = append(way, b.gates[s].Tick()...)
				default:
					way = append(way, b.nodes[a].Tick()...)
				}
			}
		}
		b.run(way, 0)
	}
}

// told tells the dots that a reading at a site tells.
func (b *bench) told(site int, key string) string {
	b.t.Helper()
	b.gates[site].Outcomes()
	b.run(b.gates[site].Get(99, nil, key))
	b.tick(1)
	for _, o := range b.gates[site].Outcomes() {
		if o.Op == 99 && o.Err == 0 {
			var out []string
			for _, v := range o.Vers {
				out = append(out, num.Digits(int64(v.Dot.S))+":"+num.Digits(v.Dot.N))
			}
			return strings.Join(out, " ")
		}
	}
	return "none"
}

func (b *bench) put(site int, key string) {
	b.t.Helper()
	b.run(b.gates[site].Put(1, nil, key, "v", false))
}
