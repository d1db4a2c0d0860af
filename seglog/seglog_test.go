package seglog_test

import (
	"bytes"
	"math/rand"
	"slices"
	"strings"
	"testing"

	"firth/api"
	"firth/disk"
	"firth/frame"
	"firth/num"
	. "firth/seglog"
)

func framedText(s string) []byte {
	b, _ := frame.Put([]byte(s))
	return b
}

func number(n int64) []byte {
	b, _ := frame.Put(num.PutNum(n))
	return b
}

func texts(list [][]byte) string {
	return string(bytes.Join(list, []byte(",")))
}

func open(t *testing.T, d *disk.Disk, size int, want string) *Log {
	t.Helper()
	l, list, e := Open(d, "a", size)
	if e != 0 || texts(list) != want {
		t.Fatalf("%q %d, not %q", list, e, want)
	}
	if l.Count() != len(list) {
		t.Error("Count", l.Count())
	}
	bytes := 0
	for _, b := range list {
		bytes += len(b) + 4 + len(num.PutNum(int64(len(b))))
	}
	if l.Bytes() != bytes {
		t.Error("Bytes", l.Bytes())
	}
	return l
}

func files(t *testing.T, d *disk.Disk, want ...string) {
	t.Helper()
	if got := d.Names(); !slices.Equal(got, want) {
		t.Error(got)
	}
}

func add(t *testing.T, l *Log, list ...string) {
	t.Helper()
	for _, s := range list {
		if e := l.Append([]byte(s)); e != 0 {
			t.Fatal(s, e)
		}
	}
}

func TestExamples(t *testing.T) {
	d := disk.New(1000)
	l := open(t, d, 16, "")
	files(t, d)
	add(t, l, "xyz")
	if b, _ := d.Read("a.0.1"); len(b) != 8 || !bytes.Equal(b, framedText("xyz")) {
		t.Error(b)
	}
	add(t, l, "12345678")
	if b, _ := d.Read("a.0.2"); len(b) != 13 {
		t.Error(b)
	}
	if l.Count() != 2 || l.Bytes() != 21 || d.Loose() != 2 {
		t.Error(l.Count(), l.Bytes(), d.Loose())
	}
	if e := l.Rewrite([][]byte{[]byte("q")}); e != 0 {
		t.Error(e)
	}
	if b, _ := d.Read("a.1.1"); len(b) != 6 || l.Count() != 1 || l.Bytes() != 6 || d.Loose() != 0 {
		t.Error(b)
	}
	if b, _ := d.Read("a.m"); !bytes.Equal(b, number(1)) {
		t.Error(b)
	}
	files(t, d, "a.1.1", "a.m")
	open(t, d, 16, "q")
	d.Cut("a.1.1", 5)
	l = open(t, d, 16, "")
	if d.Loose() != 0 {
		t.Error("no Sync")
	}
	files(t, d, "a.1.1", "a.m")
	add(t, l, "another one that is long")
	files(t, d, "a.1.1", "a.m")
}

func TestNames(t *testing.T) {
	d := disk.New(1000)
	for _, name := range []string{"", "abc", ".", "a.", ".a"} {
		if l, list, e := Open(d, name, 16); e != api.ErrArg || l != nil || list != nil {
			t.Error(name, e)
		}
	}
	for _, name := range []string{"ab", "\xff", " "} {
		if _, _, e := Open(d, name, 16); e != 0 {
			t.Error(name, e)
		}
	}
	a, _, _ := Open(d, "a", 16)
	b, _, _ := Open(d, "b", 16)
	add(t, a, "one")
	add(t, b, "two")
	if e := b.Rewrite([][]byte{[]byte("three")}); e != 0 {
		t.Error(e)
	}
	open(t, d, 16, "one")
	files(t, d, "a.0.1", "b.1.1", "b.m")
}

func TestSize(t *testing.T) {
	for _, size := range []int{-1 << 63, 0, 15, 16} {
		d := disk.New(1000)
		l := open(t, d, size, "")
		add(t, l, "xyz", "123", "q")
		files(t, d, "a.0.1", "a.0.2")
	}
	d := disk.New(1000)
	l := open(t, d, 17, "")
	add(t, l, "xyz", "1234", "", "z")
	if b, _ := d.Read("a.0.1"); len(b) != 17 {
		t.Error(len(b))
	}
	files(t, d, "a.0.1", "a.0.2")
	// One that is longer than a part may be stands alone, and the next one behind it.
	d = disk.New(1000)
	l = open(t, d, 16, "")
	add(t, l, strings.Repeat("x", 50), "y", strings.Repeat("x", 50))
	files(t, d, "a.0.1", "a.0.2", "a.0.3")
	l = open(t, d, 1<<62, strings.Repeat("x", 50)+",y,"+strings.Repeat("x", 50))
	add(t, l, "z")
	files(t, d, "a.0.1", "a.0.2", "a.0.3")
}

func TestOpenMendsItsFiles(t *testing.T) {
	d := disk.New(10000)
	put := func(name string, parts ...[]byte) { d.Append(name, bytes.Join(parts, nil)) }
	put("a.m", number(7), number(2), []byte{9})
	put("a.2.1", framedText("one"), framedText("two"))
	put("a.2.2", framedText("three"), framedText("four")[:7])
	put("a.2.3", framedText("five"))
	put("a.2.10", framedText("six"))
	put("a.7.1", framedText("old"))
	put("a.0.1", framedText("older"))
	others := []string{"a", "a.02.1", "a.2", "a.2.0", "a.2.03", "a.2.1.1", "a.2.1000000", "a.1000000.1", "ab.2.3", "b.2.9", "x.m"}
	for _, name := range others {
		put(name, []byte("?"))
	}
	d.Sync()
	l := open(t, d, 16, "one,two,three")
	want := append([]string{"a.2.1", "a.2.2", "a.m"}, others...)
	slices.Sort(want)
	files(t, d, want...)
	if b, _ := d.Read("a.m"); !bytes.Equal(b, append(number(7), number(2)...)) || d.Loose() != 0 {
		t.Error(b, d.Loose())
	}
	add(t, l, "x")
	if b, _ := d.Read("a.2.2"); !bytes.Equal(b, append(framedText("three"), framedText("x")...)) {
		t.Error(b)
	}
	loose := d.Loose()
	open(t, d, 16, "one,two,three,x")
	if d.Loose() != loose {
		t.Error("nothing was needed, yet there was a Sync")
	}
}

func TestEachChangeIsMadeSafe(t *testing.T) {
	for i, change := range []func(d *disk.Disk){
		func(d *disk.Disk) { d.Append("a.m", []byte{9}) },
		func(d *disk.Disk) { d.Append("a.7.1", nil) },
		func(d *disk.Disk) { d.Append("a.999999.999999", nil) },
		func(d *disk.Disk) { d.Append("a.0.1", []byte{9}) },
		func(d *disk.Disk) { d.Append("a.0.3", framedText("three")) },
	} {
		d := disk.New(1000)
		d.Append("a.0.1", framedText("one"))
		change(d)
		open(t, d, 16, "one")
		if d.Loose() != 0 || d.Used() != 8 {
			t.Error(i, d.Loose(), d.Names())
		}
	}
}

func TestAnOldPartThatIsFull(t *testing.T) {
	d := disk.New(1000)
	add(t, open(t, d, 16, ""), "0123456789a")
	l := open(t, d, 16, "0123456789a")
	add(t, l, "x")
	files(t, d, "a.0.1", "a.0.2")
	add(t, open(t, d, 16, "0123456789a,x"), "y")
	files(t, d, "a.0.1", "a.0.2")
}

func TestAPartThatIsMissing(t *testing.T) {
	d := disk.New(10000)
	d.Append("a.0.1", framedText("one"))
	d.Append("a.0.3", framedText("three"))
	open(t, d, 16, "one")
	files(t, d, "a.0.1")
	d.Remove("a.0.1")
	d.Append("a.0.2", framedText("two"))
	l := open(t, d, 16, "")
	files(t, d)
	add(t, l, "new")
	files(t, d, "a.0.1")
	// An empty part ahead is whole.
	d = disk.New(10000)
	d.Append("a.0.1", nil)
	d.Append("a.0.2", framedText("two"))
	open(t, d, 16, "two")
}

func TestOrderOfRemovals(t *testing.T) {
	// The list has no room any more, so that the new parts are removed again, and that isn't made safe.
	var list [][]byte
	var names []string
	for i := range 12 {
		list = append(list, []byte("0123456789"+string(rune('a'+i))))
		names = append(names, "a.1."+num.Digits(int64(i)+1))
	}
	slices.Sort(names)
	for keep := range 13 {
		d := disk.New(12*16 + 5)
		l := open(t, d, 16, "")
		if e := l.Rewrite(list); e != api.ErrFull || d.Loose() != 12 {
			t.Fatal(e, d.Loose())
		}
		d.Crash(keep, 0)
		files(t, d, names[keep:]...)
	}
}

func TestWrongLists(t *testing.T) {
	for _, b := range [][]byte{number(0), number(1000000), framedText(""), framedText("\x01\x01"), framedText("\x80\x00"), append(number(3), framedText("")...)} {
		d := disk.New(1000)
		d.Append("a.m", append(b, 9))
		d.Append("a.9.9", []byte("?"))
		if l, list, e := Open(d, "a", 16); e != api.ErrForm || l != nil || list != nil {
			t.Error(b, e)
		}
		files(t, d, "a.9.9", "a.m")
		if got, _ := d.Read("a.m"); len(got) != len(b)+1 || d.Loose() != 2 {
			t.Error("changed beside an error")
		}
	}
	d := disk.New(1000)
	d.Append("a.m", append(number(999999), number(0)[:5]...))
	if _, _, e := Open(d, "a", 16); e != 0 {
		t.Error(e)
	}
}

func TestAppendErrors(t *testing.T) {
	d := disk.New(20)
	l := open(t, d, 16, "")
	if e := l.Append(make([]byte, api.MaxFrame+1)); e != api.ErrLong {
		t.Error(e)
	}
	add(t, l, "xyz")
	if e := l.Append(make([]byte, 8)); e != api.ErrFull || l.Count() != 1 || l.Bytes() != 8 {
		t.Error(e)
	}
	add(t, l, "123")
	open(t, d, 16, "xyz,123")
	files(t, d, "a.0.1")
}

func TestNumbersEnd(t *testing.T) {
	d := disk.New(1 << 20)
	d.Append("a.m", number(999999))
	l := open(t, d, 16, "")
	add(t, l, "one")
	if e := l.Rewrite(nil); e != api.ErrFull {
		t.Error(e)
	}
	if e := l.Rewrite([][]byte{make([]byte, api.MaxFrame+1)}); e != api.ErrLong {
		t.Error(e)
	}
	open(t, d, 16, "one")
	d = disk.New(1 << 20)
	d.Append("a.m", number(999998))
	if l = open(t, d, 16, ""); l.Rewrite([][]byte{[]byte("one")}) != 0 {
		t.Error("the last generation")
	}
	add(t, open(t, d, 16, "one"), "two")
	files(t, d, "a.999999.1", "a.m")
	many := make([][]byte, 1000000)
	for i := range many {
		many[i] = make([]byte, 12)
	}
	d = disk.New(1 << 26)
	l = open(t, d, 16, "")
	if e := l.Rewrite(many); e != api.ErrFull || d.Loose() != 0 || len(d.Names()) != 0 {
		t.Error(e)
	}
	if e := l.Rewrite(many[1:]); e != 0 || l.Count() != 999999 {
		t.Error(e)
	}
	if e := l.Append(nil); e != api.ErrFull || d.Loose() != 0 || l.Count() != 999999 {
		t.Error(e)
	}
}

func TestRewrite(t *testing.T) {
	d := disk.New(1000)
	l := open(t, d, 16, "")
	add(t, l, "one", "two", "three")
	if e := l.Rewrite(nil); e != 0 || l.Count() != 0 || l.Bytes() != 0 {
		t.Error(e)
	}
	files(t, d, "a.m")
	add(t, l, "x")
	if e := l.Rewrite([][]byte{[]byte("12345678"), []byte("q"), []byte("z")}); e != 0 {
		t.Error(e)
	}
	files(t, d, "a.2.1", "a.2.2", "a.m")
	if b, _ := d.Read("a.m"); !bytes.Equal(b, append(number(1), number(2)...)) {
		t.Error(b)
	}
	if e := l.Rewrite([][]byte{[]byte("ok"), make([]byte, api.MaxFrame+1)}); e != api.ErrLong || d.Loose() != 0 {
		t.Error(e)
	}
	add(t, l, "y")
	open(t, d, 16, "12345678,q,z,y")
}

func TestRewriteThatTheDiskRefuses(t *testing.T) {
	list := [][]byte{[]byte("12345678"), []byte("12345678"), []byte("12345678")}
	for room := 21; room < 64; room++ {
		d := disk.New(room)
		l := open(t, d, 16, "")
		add(t, l, "xyz", "12345678")
		l.Sync()
		e := l.Rewrite(list)
		if room >= 21+39+6 {
			t.Fatal("too much room")
		}
		if e != api.ErrFull || l.Count() != 2 || l.Bytes() != 21 {
			t.Error(room, e)
		}
		files(t, d, "a.0.1", "a.0.2")
		// What was laid is gone, but that isn't safe yet.
		if laid := (room - 21) / 13; laid > 0 && d.Loose() == 0 {
			t.Error(room, "a Sync")
		}
		for keep := range d.Loose() + 1 {
			d := disk.New(room)
			l := open(t, d, 16, "")
			add(t, l, "xyz", "12345678")
			l.Sync()
			l.Rewrite(list)
			d.Crash(keep, 3)
			l = open(t, d, 16, "xyz,12345678")
			files(t, d, "a.0.1", "a.0.2")
			if d.Used() != 21 {
				t.Error(d.Used())
			}
		}
	}
}

func TestARewriteThatWasCutOff(t *testing.T) {
	// The new parts stand, the list doesn't name them yet: what was ahead holds.
	d := disk.New(1000)
	add(t, open(t, d, 16, ""), "old")
	d.Append("a.1.1", framedText("new"))
	d.Append("a.m", number(1)[:4])
	open(t, d, 16, "old")
	files(t, d, "a.0.1", "a.m")
	// The list names them, the old ones are there still.
	d.Append("a.1.1", framedText("new"))
	d.Append("a.m", number(1))
	open(t, d, 16, "new")
	files(t, d, "a.1.1", "a.m")
}

func TestCrashesKeepABeginning(t *testing.T) {
	rnd := rand.New(rand.NewSource(2))
	for range 300 {
		d := disk.New(100000)
		l := open(t, d, 20, "")
		var all []string
		safe := 0
		for range 5 {
			for range rnd.Intn(8) {
				s := strings.Repeat("r", rnd.Intn(9)) + num.Digits(int64(len(all)))
				add(t, l, s)
				all = append(all, s)
			}
			switch rnd.Intn(4) {
			case 0:
				l.Sync()
				safe = len(all)
			case 1:
				var list [][]byte
				for _, s := range all {
					list = append(list, []byte(s))
				}
				l.Rewrite(list)
				safe = len(all)
			case 2:
				d.Crash(rnd.Intn(d.Loose()+1), rnd.Intn(12))
				var list [][]byte
				var e api.Errno
				l, list, e = Open(d, "a", 20)
				if e != 0 || len(list) < safe || len(list) > len(all) || texts(list) != strings.Join(all[:len(list)], ",") {
					t.Fatal(texts(list), e, safe, all)
				}
				all = all[:len(list)]
				safe = len(all)
			}
		}
	}
}

func TestNothingIsKept(t *testing.T) {
	d := disk.New(1000)
	l := open(t, d, 16, "")
	in := []byte("abc")
	l.Append(in)
	in[0] = 'X'
	list := [][]byte{[]byte("def")}
	_, got, _ := Open(d, "a", 16)
	got[0][0] = 'Y'
	open(t, d, 16, "abc")
	l.Rewrite(list)
	list[0][0] = 'Z'
	open(t, d, 16, "def")
}
