package world_test

import (
	"fmt"
	"math/rand"
	"slices"
	"testing"

	"firth/api"
	"firth/judge"
	"firth/vect"
	. "firth/world"
)

// A sim drives a whole by chance, and holds what it tells against the document's own promises, P1 to P4.
type sim struct {
	t      *testing.T
	w      *World
	c      api.Conf
	rnd    *rand.Rand
	steps  int
	keys   []string
	sess   []map[api.Dot]int           // what each session has seen
	behind map[api.Dot]map[api.Dot]int // what is behind each write
	key    map[api.Dot]string
	knew   map[int64]map[api.Dot]int // of each ask, what its session had seen
	seen   map[int64][]int64         // of each ask, how far the site had come
	ended  map[int64]int
	whose  map[api.Dot]int64
}

func simConf(rnd *rand.Rand) api.Conf {
	c := api.Conf{Sites: 3, Links: [][2]int{{1, 2}, {2, 3}}, Nodes: 4, Members: []int{1, 2, 3}, N: 3, R: 2, W: 2, Group: 7, Secret: "s",
		Room: 1 << 22, Seg: 300, Cap: 3 + rnd.Intn(20), Pend: 6, Wait: 6, Timeout: 6, HintAfter: 2}
	if rnd.Intn(3) == 0 {
		c.Links = append(c.Links, [2]int{1, 3})
	}
	if rnd.Intn(3) == 0 {
		c.R, c.W = 1, 3
	}
	return c
}

func newSim(t *testing.T, seed int64, steps int) *sim {
	rnd := rand.New(rand.NewSource(seed))
	s := &sim{t: t, c: simConf(rnd), rnd: rnd, steps: steps, keys: []string{"a", "b", "c"}, behind: map[api.Dot]map[api.Dot]int{}, key: map[api.Dot]string{},
		knew: map[int64]map[api.Dot]int{}, seen: map[int64][]int64{}, ended: map[int64]int{}, whose: map[api.Dot]int64{}}
	var e api.Errno
	if s.w, e = New(s.c); e != 0 {
		t.Fatal(e)
	}
	for i := range 7 {
		s.w.Do(Event{Kind: Open, Site: 1 + i%3})
		s.sess = append(s.sess, map[api.Dot]int{})
	}
	return s
}

func (s *sim) place() (int, int) { return 1 + s.rnd.Intn(3), s.rnd.Intn(5) }

// event tells an event by chance.
func (s *sim) event() Event {
	site, n := s.place()
	sess := 1 + s.rnd.Intn(len(s.sess))
	key := s.keys[s.rnd.Intn(3)]
	switch x := s.rnd.Intn(200); {
	case x < 25:
		return Event{Kind: Put, Sess: sess, Key: key, Val: fmt.Sprint(s.rnd.Intn(99))}
	case x < 28:
		return Event{Kind: Del, Sess: sess, Key: key}
	case x < 55:
		return Event{Kind: Get, Sess: sess, Key: key}
	case x < 60:
		return Event{Kind: Go, Sess: sess, Site: site}
	case x < 62:
		return Event{Kind: Lose, I: s.rnd.Intn(20)}
	case x < 64:
		return Event{Kind: Copy, I: s.rnd.Intn(20)}
	case x < 65:
		return Event{Kind: Flip, I: s.rnd.Intn(20), At: 5 + s.rnd.Intn(20), X: byte(1 + s.rnd.Intn(255))}
	case x < 80:
		return Event{Kind: Tick}
	case x < 83:
		return Event{Kind: Crash, Site: site, Node: n, Keep: s.rnd.Intn(3), Torn: s.rnd.Intn(9)}
	case x < 90:
		return Event{Kind: Start, Site: site, Node: n}
	case x < 92:
		return Event{Kind: Part, A: at(site, 0), B: at(1+s.rnd.Intn(3), 0), On: s.rnd.Intn(4) == 0}
	case x < 94:
		return Event{Kind: Full, Site: site, I: 1 + s.rnd.Intn(3)}
	case x < 95:
		return Event{Kind: Move, Site: site, List: [][]int{{1, 2, 3}, {2, 3, 4}, {1, 2, 3, 4}, {1, 3, 4}}[s.rnd.Intn(4)]}
	case x < 97:
		return Event{Kind: Mend, Site: site, Node: n, I: 1 + s.rnd.Intn(4), At: s.rnd.Intn(8)}
	case x < 98:
		return Event{Kind: Trim, Site: site, Node: n}
	case x < 99:
		return s.wipe(site, n)
	case x < 101:
		return Event{Kind: Heal, Site: site, Node: n}
	}
	return Event{Kind: Deliver, I: s.rnd.Intn(1 + s.w.Packets())}
}

// wipe tells a wiping, where no other node of the site is wiped and not healed.
func (s *sim) wipe(site, n int) Event {
	for node := 1; node <= 4; node++ {
		if _, ok := s.w.Held(at(site, node)); !ok {
			return Event{Kind: Start, Site: site, Node: node}
		}
	}
	return Event{Kind: Wipe, Site: site, Node: n}
}

func (s *sim) run() {
	for range s.steps {
		s.do(s.event())
	}
}

func (s *sim) do(e Event) {
	err, n := s.w.Do(e)
	if n > 0 && e.Kind != Open {
		s.began(int64(n), e)
	}
	if err == 0 || n > 0 {
		s.look()
	}
}

func with(a, b map[api.Dot]int) map[api.Dot]int {
	out := map[api.Dot]int{}
	for d := range a {
		out[d] = 1
	}
	for d := range b {
		out[d] = 1
	}
	return out
}

func (s *sim) began(op int64, e Event) {
	entry := s.w.History()[op-1]
	s.seen[op] = s.w.Applied(entry.Site)
	s.knew[op] = nil
	if e.Sess > 0 {
		s.knew[op] = with(s.sess[e.Sess-1], nil)
	}
}

// look goes through what is new in the history, and through what the sites cover.
func (s *sim) look() {
	for _, e := range s.w.History() {
		if e.Dot.N > 0 && s.key[e.Dot] == "" {
			s.key[e.Dot] = e.Key
			s.behind[e.Dot] = s.knew[e.Op]
			s.whose[e.Dot] = e.Op
		} else if e.Dot.N > 0 && s.whose[e.Dot] != e.Op {
			s.t.Fatal("issued twice", e)
		}
		if e.Ended == 0 || s.ended[e.Op] > 0 {
			continue
		}
		s.ended[e.Op] = e.Ended
		if e.Err == 0 && e.Sess > 0 {
			s.went(e)
		}
	}
	for site := 1; site <= 3; site++ {
		s.covers(site)
	}
}

func covered(v []int64, d api.Dot) bool { return d.S <= len(v) && v[d.S-1] >= d.N }

// covers looks at P1.
func (s *sim) covers(site int) {
	v := s.w.Applied(site)
	for d, behind := range s.behind {
		if v == nil || !covered(v, d) {
			continue
		}
		for b := range behind {
			if !covered(v, b) {
				s.t.Fatalf("site %d covers %v, but not %v", site, d, b)
			}
		}
	}
}

// went looks at P2 (and with it at P3).
func (s *sim) went(e Entry) {
	had := s.sess[e.Sess-1]
	if e.Kind != Get {
		s.sess[e.Sess-1] = with(had, map[api.Dot]int{e.Dot: 1})
		return
	}
	told := map[api.Dot]int{}
	for _, v := range e.Vers {
		told[v.Dot] = 1
	}
	all := with(s.knew[e.Op], told)
	for d := range told {
		all = with(all, s.behind[d])
	}
	for d := range s.key {
		if covered(s.seen[e.Op], d) {
			all = with(with(all, map[api.Dot]int{d: 1}), s.behind[d])
		}
	}
	for d := range s.knew[e.Op] {
		if !covered(s.seen[e.Op], d) {
			s.t.Fatalf("%v was seen, but isn't covered: %+v", d, e)
		}
	}
	best := map[api.Dot]int{}
	for d := range all {
		if s.key[d] == e.Key {
			best[d] = 1
		}
	}
	for d := range all {
		if s.key[d] == e.Key {
			for b := range s.behind[d] {
				delete(best, b)
			}
		}
	}
	if len(best) != len(told) || len(with(best, told)) != len(best) {
		s.t.Fatalf("told %v, not %v: %+v", told, best, e)
	}
	for d := range told {
		s.sess[e.Sess-1] = with(with(s.sess[e.Sess-1], told), s.behind[d])
	}
}

// settle joins all, lets all be up and healed, and takes over what was dropped.
func (s *sim) settle() {
	for a := 1; a <= 3; a++ {
		for b := 1; b <= 3; b++ {
			s.do(Event{Kind: Part, A: at(a, 0), B: at(b, 0)})
		}
		for n := range 5 {
			s.do(Event{Kind: Start, Site: a, Node: n})
		}
	}
	s.ticks(70)
	for site := 1; site <= 3; site++ {
		for n := 1; n <= 4; n++ {
			if _, ok := s.w.Held(at(site, n)); !ok {
				s.do(Event{Kind: Heal, Site: site, Node: n})
				s.ticks(3)
			}
		}
	}
	for range 3 {
		for _, l := range s.c.Links {
			for _, x := range [][2]int{{l[0], l[1]}, {l[1], l[0]}} {
				if slices.Contains(s.w.Gaps(x[0]), x[1]) || s.isBehind(x[1], x[0]) {
					s.do(Event{Kind: Full, Site: x[1], I: x[0]})
					s.ticks(6)
				}
			}
		}
		s.ticks(10)
	}
}

// isBehind tells whether a site lacks what another one covers, where sites are linked in a row: what one in the
// midst has taken over isn't sent on, so that the one behind it must take over in turn.
func (s *sim) isBehind(site, other int) bool {
	return len(s.c.Links) == 2 && !vect.Below(s.w.Applied(other), s.w.Applied(site))
}

func (s *sim) ticks(n int) {
	for range n {
		s.do(Event{Kind: Tick})
		for s.w.Packets() > 0 {
			s.do(Event{Kind: Deliver})
		}
	}
}

// meet looks at P4.
func (s *sim) meet() {
	s.settle()
	for site := 1; site <= 3; site++ {
		if !slices.Equal(s.w.Applied(site), s.w.Applied(1)) || !s.w.Idle(site) || len(s.w.Gaps(site)) > 0 {
			s.t.Fatal(site, s.w.Applied(site), s.w.Applied(1), s.w.Idle(site), s.w.Gaps(site))
		}
	}
	for d := range s.key {
		if !covered(s.w.Applied(1), d) {
			s.t.Fatal("lost", d)
		}
	}
	for _, key := range s.keys {
		var first []api.Dot
		for site := 1; site <= 3; site++ {
			_, sess := s.w.Do(Event{Kind: Open, Site: site})
			s.sess = append(s.sess, map[api.Dot]int{})
			_, op := s.w.Do(Event{Kind: Get, Sess: sess, Key: key})
			s.began(int64(op), Event{Sess: sess})
			s.ticks(2)
			e := s.w.History()[op-1]
			if e.Ended == 0 || e.Err != 0 {
				s.t.Fatalf("%+v", e)
			}
			var dots []api.Dot
			for _, v := range e.Vers {
				dots = append(dots, v.Dot)
			}
			if site == 1 {
				first = dots
			}
			if !slices.Equal(dots, first) {
				s.t.Fatal(key, dots, first)
			}
		}
	}
}

// judged lets layer 23 judge what the sessions did.
func (s *sim) judged() {
	var acts []judge.Act
	for _, e := range s.w.History() {
		if e.Sess == 0 {
			continue
		}
		a := judge.Act{Read: e.Kind == Get, Sess: e.Sess, Key: e.Key, Dot: e.Dot, OK: e.Ended > 0 && e.Err == 0, Seen: s.seen[e.Op]}
		for _, v := range e.Vers {
			a.Reads = append(a.Reads, v.Dot)
		}
		acts = append(acts, a)
	}
	if i, verdict := judge.Judge(acts); verdict != judge.Well {
		s.t.Fatalf("%d: %d: %+v", i, verdict, acts[i])
	}
}

func TestThePromisesOfTheWhole(t *testing.T) {
	for seed := range int64(30) {
		t.Run(fmt.Sprint(seed), func(t *testing.T) {
			s := newSim(t, seed, 1500)
			s.run()
			s.meet()
			s.judged()
		})
	}
}
