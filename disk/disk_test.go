package disk_test

import (
	"bytes"
	"math/rand"
	"slices"
	"strings"
	"testing"

	"firth/api"
	. "firth/disk"
)

func want(t *testing.T, d *Disk, files ...string) {
	t.Helper()
	var names []string
	used := 0
	for i := 0; i < len(files); i += 2 {
		names = append(names, files[i])
		used += len(files[i+1])
		if b, ok := d.Read(files[i]); !ok || string(b) != files[i+1] {
			t.Errorf("%s: %q %v", files[i], b, ok)
		}
	}
	if !slices.Equal(d.Names(), names) || d.Used() != used {
		t.Error(d.Names(), d.Used())
	}
}

func all(t *testing.T, errs ...api.Errno) {
	t.Helper()
	for i, e := range errs {
		if e != 0 {
			t.Error(i, e)
		}
	}
}

func example(t *testing.T) *Disk {
	d := New(100)
	all(t, d.Append("a", []byte("xy")))
	d.Sync()
	all(t, d.Append("a", []byte("z1")), d.Append("b", []byte("q")))
	return d
}

func TestExamples(t *testing.T) {
	d := example(t)
	want(t, d, "a", "xyz1", "b", "q")
	d.Crash(0, 1)
	want(t, d, "a", "xyz")
	d = example(t)
	d.Crash(1, 9)
	want(t, d, "a", "xyz1", "b", "q")
	for _, x := range []struct {
		keep, torn int
		files      []string
	}{
		{0, 0, []string{"a", "xy"}}, {-5, -5, []string{"a", "xy"}}, {0, 9, []string{"a", "xyz1"}}, {1, 0, []string{"a", "xyz1"}},
		{2, 0, []string{"a", "xyz1", "b", "q"}}, {99, 0, []string{"a", "xyz1", "b", "q"}},
	} {
		d = example(t)
		d.Crash(x.keep, x.torn)
		want(t, d, x.files...)
		if d.Loose() != 0 {
			t.Error("loose")
		}
	}
	d = New(3)
	all(t, d.Append("a", []byte("xy")))
	if e := d.Append("b", []byte("12")); e != api.ErrFull {
		t.Error(e)
	}
	all(t, d.Append("b", []byte("1")), d.Append("b", nil))
	want(t, d, "a", "xy", "b", "1")
}

func TestRoom(t *testing.T) {
	d := New(-3)
	all(t, d.Append("a", nil))
	if e := d.Append("a", []byte{1}); e != api.ErrFull || d.Loose() != 1 {
		t.Error(e, d.Loose())
	}
	want(t, d, "a", "")
	d = New(1 << 40)
	all(t, d.Append("a", make([]byte, api.MaxRoom)))
	if e := d.Append("a", []byte{1}); e != api.ErrFull {
		t.Error("more than the greatest room", e)
	}
	d = New(2)
	all(t, d.Append("a", []byte("xy")), d.Cut("a", 0), d.Append("b", []byte("12")), d.Remove("b"), d.Append("c", []byte("34")), d.Rename("c", "a"))
	want(t, d, "a", "34")
}

func TestErrors(t *testing.T) {
	d := New(10)
	long := strings.Repeat("x", 17)
	all(t, d.Append(long[:16], []byte("ab")))
	loose := d.Loose()
	for _, name := range []string{"", long} {
		if d.Append(name, make([]byte, 99)) != api.ErrName || d.Cut(name, -1) != api.ErrName || d.Remove(name) != api.ErrName || d.Rename(name, "a") != api.ErrName || d.Rename("none", name) != api.ErrName {
			t.Error(name)
		}
	}
	if d.Cut("none", -1) != api.ErrNone || d.Remove("none") != api.ErrNone || d.Rename("none", "none") != api.ErrNone || d.Rename("none", long[:16]) != api.ErrNone {
		t.Error("none")
	}
	if d.Cut(long[:16], -1) != api.ErrArg || d.Cut(long[:16], 3) != api.ErrArg {
		t.Error("Cut")
	}
	if b, ok := d.Read("none"); b != nil || ok {
		t.Error(b, ok)
	}
	if d.Loose() != loose {
		t.Error("changed")
	}
	want(t, d, long[:16], "ab")
}

func TestCutRenameRemove(t *testing.T) {
	d := New(100)
	all(t, d.Append("a", []byte("abc")), d.Append("b", []byte("12")))
	d.Sync()
	all(t, d.Cut("a", 1), d.Append("a", []byte("ZZ")), d.Rename("a", "b"), d.Append("b", []byte("!")), d.Remove("b"), d.Append("\xff", []byte("n")), d.Append("A", nil))
	if d.Loose() != 7 {
		t.Error(d.Loose())
	}
	if d.Cut("A", 0) != 0 || d.Cut("\xff", 1) != 0 || d.Loose() != 9 {
		t.Error("a cut to the whole length is a change, too")
	}
	want(t, d, "A", "", "\xff", "n")
	d.Crash(0, 9)
	want(t, d, "a", "abc", "b", "12")
	all(t, d.Rename("a", "a"))
	if d.Loose() != 1 {
		t.Error("a rename to itself is a change")
	}
	d.Wipe()
	want(t, d)
	if d.Loose() != 0 {
		t.Error("loose")
	}
	d.Crash(0, 0)
	want(t, d)
}

// A plain model: the files as they were made safe, and what was done since.
type step struct {
	kind, n  int
	from, to string
	b        []byte
}

func (s step) do(files map[string]string, part int) {
	switch s.kind {
	case 0:
		if part != 0 || len(s.b) == 0 && part < 0 {
			files[s.from] += string(s.b)
		}
	case 1:
		files[s.from] = files[s.from][:s.n]
	case 2:
		moved := files[s.from]
		delete(files, s.from)
		files[s.to] = moved
	case 3:
		delete(files, s.from)
	}
}

func random(rnd *rand.Rand, d *Disk) (step, bool) {
	names := []string{"a", "b", "c"}
	s := step{kind: rnd.Intn(4), from: names[rnd.Intn(3)], to: names[rnd.Intn(3)], n: rnd.Intn(6)}
	s.b = []byte(strings.Repeat(string(rune('a'+rnd.Intn(26))), rnd.Intn(4)))
	var e api.Errno
	switch s.kind {
	case 0:
		e = d.Append(s.from, s.b)
	case 1:
		e = d.Cut(s.from, s.n)
	case 2:
		e = d.Rename(s.from, s.to)
	case 3:
		e = d.Remove(s.from)
	}
	return s, e == 0
}

func TestCrashesAgainstAModel(t *testing.T) {
	rnd := rand.New(rand.NewSource(1))
	for range 400 {
		d := New(200)
		safe := map[string]string{}
		for range 6 {
			var steps []step
			for range rnd.Intn(12) {
				if s, ok := random(rnd, d); ok {
					steps = append(steps, s)
				}
			}
			if d.Loose() != len(steps) {
				t.Fatal("Loose")
			}
			keep, torn := rnd.Intn(len(steps)+1), rnd.Intn(5)
			if rnd.Intn(3) == 0 {
				d.Sync()
				keep = len(steps)
			} else {
				d.Crash(keep, torn)
			}
			for _, s := range steps[:keep] {
				s.do(safe, -1)
			}
			if keep < len(steps) && steps[keep].kind == 0 {
				s := steps[keep]
				s.b = s.b[:min(torn, len(s.b))]
				if len(s.b) > 0 {
					s.do(safe, 1)
				}
			}
			var files []string
			for name := range safe {
				files = append(files, name)
			}
			slices.Sort(files)
			var pairs []string
			for _, name := range files {
				pairs = append(pairs, name, safe[name])
			}
			want(t, d, pairs...)
		}
	}
}

func TestNothingIsKept(t *testing.T) {
	d := New(100)
	in := make([]byte, 2, 50)
	copy(in, "ab")
	all(t, d.Append("a", in))
	in[0] = 'X'
	got, _ := d.Read("a")
	got[1] = 'Y'
	_ = append(got, "ZZZZ"...)
	all(t, d.Append("a", in))
	if b, _ := d.Read("a"); !bytes.Equal(b, []byte("abXb")) || in[:3][2] != 0 {
		t.Error(string(b))
	}
	d.Names()[0] = "q"
	want(t, d, "a", "abXb")
}
