package script_test

import (
	"math/rand"
	"reflect"
	"strings"
	"testing"

	"firth/api"
	. "firth/script"
	"firth/world"
)

func conf() api.Conf {
	return api.Conf{Sites: 1, Nodes: 1, Members: []int{1}, N: 1, R: 1, W: 1, Group: 7, Secret: "s", Room: 1 << 20, Seg: 256, Cap: 8, Pend: 8, Wait: 8, Timeout: 6, HintAfter: 2}
}

func at(s, n int) api.Addr { return api.Addr{Site: s, Node: n} }

var pairs = []struct {
	line string
	e    world.Event
}{
	{"open 1", world.Event{Kind: world.Open, Site: 1}},
	{"get 1 k", world.Event{Kind: world.Get, Sess: 1, Key: "k"}},
	{"put 1 k v", world.Event{Kind: world.Put, Sess: 1, Key: "k", Val: "v"}},
	{"put 0 - -", world.Event{Kind: world.Put, Key: "-", Val: "-"}},
	{"del 3 !~", world.Event{Kind: world.Del, Sess: 3, Key: "!~"}},
	{"go 3 2", world.Event{Kind: world.Go, Sess: 3, Site: 2}},
	{"try 1 k -", world.Event{Kind: world.Try, Site: 1, Key: "k"}},
	{"try 1 k 00ff1a", world.Event{Kind: world.Try, Site: 1, Key: "k", Data: []byte{0, 255, 26}}},
	{"deliver 2147483647", world.Event{Kind: world.Deliver, I: 1<<31 - 1}},
	{"lose 0", world.Event{Kind: world.Lose}},
	{"copy 4", world.Event{Kind: world.Copy, I: 4}},
	{"flip 1 2 255", world.Event{Kind: world.Flip, I: 1, At: 2, X: 255}},
	{"junk 1 0 2 3 ab", world.Event{Kind: world.Junk, A: at(1, 0), B: at(2, 3), Data: []byte{0xab}}},
	{"tick", world.Event{Kind: world.Tick}},
	{"crash 1 2 3 4", world.Event{Kind: world.Crash, Site: 1, Node: 2, Keep: 3, Torn: 4}},
	{"start 1 2", world.Event{Kind: world.Start, Site: 1, Node: 2}},
	{"wipe 1 2", world.Event{Kind: world.Wipe, Site: 1, Node: 2}},
	{"part 1 0 2 0", world.Event{Kind: world.Part, A: at(1, 0), B: at(2, 0), On: true}},
	{"join 1 0 2 0", world.Event{Kind: world.Part, A: at(1, 0), B: at(2, 0)}},
	{"full 1 2", world.Event{Kind: world.Full, Site: 1, I: 2}},
	{"mend 1 2 3 4", world.Event{Kind: world.Mend, Site: 1, Node: 2, I: 3, At: 4}},
	{"move 1 2", world.Event{Kind: world.Move, Site: 1, List: []int{2}}},
	{"move 1 2 0 3", world.Event{Kind: world.Move, Site: 1, List: []int{2, 0, 3}}},
	{"heal 1 2", world.Event{Kind: world.Heal, Site: 1, Node: 2}},
	{"trim 1 0", world.Event{Kind: world.Trim, Site: 1}},
	{"put 1 " + strings.Repeat("k", 256) + " v", world.Event{Kind: world.Put, Sess: 1, Key: strings.Repeat("k", 256), Val: "v"}},
	{"try 1 k " + strings.Repeat("01", 128), world.Event{Kind: world.Try, Site: 1, Key: "k", Data: []byte(strings.Repeat("\x01", 128))}},
}

func TestPairs(t *testing.T) {
	for _, x := range pairs {
		if e, err := Parse(x.line); err != 0 || !reflect.DeepEqual(e, x.e) {
			t.Errorf("%q: %+v %d", x.line, e, err)
		}
		if line, err := Print(x.e); err != 0 || line != x.line {
			t.Errorf("%+v: %q %d", x.e, line, err)
		}
	}
	if line, err := Print(world.Event{Kind: world.Tick, Data: []byte{}, List: []int{}}); err != 0 || line != "tick" {
		t.Error(line, err)
	}
}

func TestLinesThatSayNothing(t *testing.T) {
	for _, line := range []string{
		"", " ", "tick ", " tick", "tick 1", "Tick", "tic", "open", "open 01", "open -1", "open 1 2", "open  1", "open 2147483648", "open 99999999999999999999", "open x", "open 1\t",
		"put 1 k", "put 1 k v w", "put 1  v", "put k 1 v", "get 1", "get 1 \x7f", "get 1 \x1f", "get 1 \xc3\xa9", "get 1 " + strings.Repeat("k", 257),
		"try 1 k", "try 1 k 0", "try 1 k 0g", "try 1 k AB", "try 1 k --", "try 1 k 000", "try 1 k " + strings.Repeat("01", 129),
		"flip 1 2 256", "flip 1 2", "junk 1 0 2 -", "crash 1 2 3", "part 1 0 2", "move 1", "move", "move 1 x", "move 1 2 ", "move 1 2147483648",
		"say 1", "open\n1", "tick\n", "tick\r", strings.Repeat("x", 300),
	} {
		if e, err := Parse(line); err != api.ErrLine || !reflect.DeepEqual(e, world.Event{}) {
			t.Errorf("%q: %+v %d", line, e, err)
		}
	}
}

func TestEventsThatNoLineSays(t *testing.T) {
	for i, e := range []world.Event{
		{}, {Kind: 22}, {Kind: -1}, {Kind: world.Tick, Site: 1}, {Kind: world.Tick, On: true}, {Kind: world.Open, Site: -1}, {Kind: world.Open, Site: 1 << 31},
		{Kind: world.Get, Sess: 1}, {Kind: world.Get, Sess: 1, Key: "a b"}, {Kind: world.Put, Sess: 1, Key: "a b"}, {Kind: world.Get, Sess: 1, Key: "a\n"}, {Kind: world.Get, Sess: 1, Key: strings.Repeat("k", 257)},
		{Kind: world.Put, Sess: 1, Key: "k"}, {Kind: world.Get, Sess: 1, Key: "k", Val: "v"}, {Kind: world.Move, Site: 1}, {Kind: world.Move, Site: 1, List: []int{1, -1}}, {Kind: world.Tick, List: []int{1}},
		{Kind: world.Open, Site: 1, List: []int{1}}, {Kind: world.Try, Site: 1, Key: "k", Data: make([]byte, 129)}, {Kind: world.Tick, Data: []byte{1}}, {Kind: world.Tick, X: 1},
		{Kind: world.Tick, A: at(1, 0)}, {Kind: world.Tick, B: at(0, 1)}, {Kind: world.Tick, Keep: 1}, {Kind: world.Tick, Torn: 1}, {Kind: world.Tick, I: 1}, {Kind: world.Tick, At: 1},
		{Kind: world.Tick, Node: 1}, {Kind: world.Tick, Sess: 1}, {Kind: world.Tick, Key: "k"}, {Kind: world.Junk, A: at(-1, 0)}, {Kind: world.Junk, On: true}, {Kind: world.Part, Data: []byte{1}},
	} {
		if line, err := Print(e); err != api.ErrLine || line != "" {
			t.Errorf("%d: %q %d", i, line, err)
		}
	}
}

func TestThereAndBack(t *testing.T) {
	rnd := rand.New(rand.NewSource(3))
	words := strings.Fields("open get put del go try deliver lose copy flip junk tick crash start wipe part join full mend move heal trim 0 1 2 255 256 k - ab ff 0a")
	said := 0
	for range 50000 {
		var line []string
		for range 1 + rnd.Intn(6) {
			line = append(line, words[rnd.Intn(len(words))])
		}
		if rnd.Intn(2) == 0 {
			line[0] = words[rnd.Intn(22)]
		}
		text := strings.Join(line, " ")
		e, err := Parse(text)
		if err != 0 {
			continue
		}
		said++
		if again, err := Print(e); err != 0 || again != text {
			t.Fatalf("%q: %q %d", text, again, err)
		}
	}
	if said < 500 {
		t.Error(said)
	}
}

func runs(t *testing.T, c api.Conf, text, want string) {
	t.Helper()
	if got, err := Run(c, text); err != 0 || got != want {
		t.Errorf("%q: %d\n%s", text, err, got)
	}
}

func TestRun(t *testing.T) {
	runs(t, conf(), "open 1\ntick\n", "0 1\n0 0\n")
	runs(t, conf(), "open 1\ntick", "0 1\n0 0\n")
	runs(t, conf(), "", "")
	runs(t, conf(), "\n", "240 0\n")
	runs(t, conf(), "\n\ntick", "240 0\n240 0\n0 0\n")
	runs(t, conf(), "open 2\nlose 0\ngo 1 1\ntick 1\r\nflip 0 0 0", "1 0\n71 0\n210 0\n240 0\n71 0\n")
	runs(t, conf(), "open 1\nopen 1\nput 1 k v\nnonsense\ndeliver 0\ndeliver 0\ndel 1 k\nput 2 k w\nget 2 k\n",
		"0 1\n0 2\n0 1\n240 0\n0 0\n0 0\n0 2\n0 3\n202 0\n"+
			"1 3 1 1 0 1 1 3 5\n2 4 1 1 0 1 2 6 0\n3 3 2 1 0 0 0 7 0\n")
	runs(t, conf(), "open 1\ndel 1 k\ndeliver 0\ndeliver 0\nget 1 k\ndeliver 0\ndeliver 0\ntry 1 k 09\ncrash 1 0 0 0\nget 1 k\n",
		"0 1\n0 1\n0 0\n0 0\n0 2\n0 0\n0 0\n130 3\n0 0\n203 4\n"+
			"1 4 1 1 0 1 1 2 4\n2 2 1 1 0 0 0 5 7 1 1 1\n3 6 0 1 130 0 0 8 8\n4 2 1 1 203 0 0 10 10\n")
	runs(t, conf(), "open 1\nput 1 k v\ndeliver 0\ndeliver 0\nget 1 k\ndeliver 0\ndeliver 0\n",
		"0 1\n0 1\n0 0\n0 0\n0 2\n0 0\n0 0\n1 3 1 1 0 1 1 2 4\n2 2 1 1 0 0 0 5 7 1 1 0\n")
}

func TestRunErrors(t *testing.T) {
	c := conf()
	c.Secret = ""
	if out, err := Run(c, "tick"); out != "" || err != api.ErrConf {
		t.Error(out, err)
	}
	c = conf()
	c.Room = 0
	if out, err := Run(c, "tick"); out != "" || err != api.ErrFull {
		t.Error(out, err)
	}
}

func TestTheFirstExampleOfTheWhole(t *testing.T) {
	c := conf()
	c.Sites, c.Links = 2, [][2]int{{1, 2}}
	text := "open 1\nopen 2\nput 1 k v\ndeliver 0\ndeliver 0\ntick\n" + strings.Repeat("deliver 0\n", 4) + "get 2 k\ndeliver 0\ndeliver 0"
	got, err := Run(c, text)
	if err != 0 || !strings.HasSuffix(got, "\n1 3 1 1 0 1 1 3 5\n2 2 2 2 0 0 0 11 13 1 1 0\n") {
		t.Error(got, err)
	}
	if again, _ := Run(c, text); again != got {
		t.Error("not the same")
	}
}
