package ring_test

import (
	"slices"
	"sort"
	"testing"

	"firth/api"
	"firth/num"
	. "firth/ring"
)

var all = []int{1, 2, 3, 4, 5, 6, 7, 8}

// walk is the order of a partition, worked out the long way: the nearest point upwards, again and again.
func walk(members []int, part int) []int {
	type near struct {
		way    uint64
		member int
	}
	from := num.Hash([]byte{255, byte(part)})
	var list []near
	for _, m := range members {
		best := near{1<<64 - 1, m}
		for i := range 4 {
			// Unsigned, the way wraps round behind the greatest point.
			best.way = min(best.way, num.Hash([]byte{byte(m), byte(i)})-from)
		}
		list = append(list, best)
	}
	sort.SliceStable(list, func(i, j int) bool { return list[i].way < list[j].way })
	var out []int
	for _, x := range list {
		out = append(out, x.member)
	}
	return out
}

func subsets() [][]int {
	var out [][]int
	for bits := 1; bits < 256; bits++ {
		var l []int
		for i := range 8 {
			if bits>>i&1 == 1 {
				l = append(l, i+1)
			}
		}
		out = append(out, l)
	}
	return out
}

var wrong = [][]int{nil, {}, {0}, {9}, {2, 1}, {1, 1}, {1, 2, 3, 4, 5, 6, 7, 8, 9}, {-1, 2}}

func TestRight(t *testing.T) {
	for _, l := range subsets() {
		if !Right(l) {
			t.Error(l)
		}
	}
	for _, l := range wrong {
		if Right(l) {
			t.Error(l)
		}
	}
}

func TestPart(t *testing.T) {
	seen := map[int]int{}
	for i := range 200 {
		key := "k" + num.Digits(int64(i))
		if Part(key) != int(num.Hash([]byte(key))%8) {
			t.Error(key)
		}
		seen[Part(key)]++
	}
	if len(seen) != 8 {
		t.Error(seen)
	}
	if Part("") != int(num.Hash(nil)%8) {
		t.Error("no key")
	}
}

func TestListAndRest(t *testing.T) {
	for _, members := range subsets() {
		for part := range api.Parts {
			want := walk(members, part)
			for n := -1; n < 10; n++ {
				cut := min(max(n, 0), len(want))
				if got := List(members, part, n); !slices.Equal(got, want[:cut]) {
					t.Fatal(members, part, n, got, want)
				}
				if got := Rest(members, part, n); !slices.Equal(got, want[cut:]) {
					t.Fatal(members, part, n, got, want)
				}
			}
		}
	}
	if len(List([]int{1, 2, 3}, 0, 5)) != 3 || !slices.Equal(List([]int{4}, 7, 1), []int{4}) || len(Rest([]int{4}, 7, 1)) != 0 {
		t.Error("examples")
	}
	if len(List(all, 0, 1<<62)) != 8 || len(Rest(all, 0, -1<<63)) != 8 {
		t.Error("great numbers")
	}
	for _, members := range wrong {
		if len(List(members, 0, 1)) != 0 || len(Rest(members, 0, 0)) != 0 || len(Owns(members, 1, 3)) != 0 || len(Moves(members, all, 2)) != 0 || len(Moves(all, members, 2)) != 0 {
			t.Error(members)
		}
	}
	for _, part := range []int{-1, 8, 1 << 40} {
		if len(List(all, part, 3)) != 0 || len(Rest(all, part, 3)) != 0 {
			t.Error(part)
		}
	}
}

func TestOrdersDiffer(t *testing.T) {
	firsts := map[int]int{}
	for part := range api.Parts {
		firsts[List(all, part, 1)[0]]++
	}
	if len(firsts) < 2 {
		t.Error(firsts)
	}
}

func TestWithoutAMember(t *testing.T) {
	for _, gone := range all {
		less := slices.DeleteFunc(slices.Clone(all), func(m int) bool { return m == gone })
		for part := range api.Parts {
			want := slices.DeleteFunc(List(all, part, 8), func(m int) bool { return m == gone })
			if !slices.Equal(List(less, part, 8), want) {
				t.Error(gone, part)
			}
		}
	}
}

func TestOwns(t *testing.T) {
	for n := range 5 {
		for _, node := range []int{-1, 0, 3, 5, 9} {
			var want []int
			for part := range api.Parts {
				if slices.Contains(List([]int{1, 3, 5, 7}, part, n), node) {
					want = append(want, part)
				}
			}
			if got := Owns([]int{1, 3, 5, 7}, node, n); !slices.Equal(got, want) || n == 4 && node == 3 && len(got) != 8 {
				t.Error(n, node, got)
			}
		}
	}
}

func TestMoves(t *testing.T) {
	if len(Moves([]int{1, 2}, []int{1, 2}, 2)) != 0 {
		t.Error("none")
	}
	for _, new := range subsets() {
		at := 0
		moves := Moves([]int{1, 2, 3}, new, 2)
		for part := range api.Parts {
			a, b := List([]int{1, 2, 3}, part, 2), List(new, part, 2)
			if slices.Equal(a, b) {
				continue
			}
			if at >= len(moves) || moves[at].Part != part || !slices.Equal(moves[at].Old, a) || !slices.Equal(moves[at].New, b) {
				t.Fatal(new, part, moves)
			}
			at++
		}
		if at != len(moves) {
			t.Error(moves)
		}
	}
	// The same members in another order are another list.
	if len(Moves([]int{1}, []int{2}, 1)) != 8 || len(Moves([]int{1}, []int{2}, 0)) != 0 {
		t.Error("counts")
	}
}

func TestWhatIsAnsweredIsNew(t *testing.T) {
	in := []int{1, 2, 3}
	l := List(in, 0, 2)
	_ = append(l, 99)
	l[0] = 77
	r := Rest(in, 0, 2)
	r[0] = 77
	if !slices.Equal(in, []int{1, 2, 3}) || !slices.Equal(List(in, 0, 3), walk(in, 0)) {
		t.Error("changed")
	}
}
