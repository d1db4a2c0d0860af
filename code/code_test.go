package code_test

import (
	"bytes"
	"reflect"
	"slices"
	"strings"
	"testing"

	"firth/api"
	. "firth/code"
	"firth/frame"
	"firth/num"
)

func sp(s int, from, to int64) api.Span { return api.Span{S: s, From: from, To: to} }

func ver(s int, n int64, past ...api.Span) api.Ver {
	return api.Ver{Dot: api.Dot{S: s, N: n}, Past: past, Val: "v"}
}

var gone = api.Ver{Dot: api.Dot{S: 2, N: 300}, Past: []api.Span{{S: 1, From: 2, To: 5}}, Gone: true}

func rec(key string, l ...api.Ver) api.Rec { return api.Rec{Key: key, Vers: l} }

func full() api.Msg {
	return api.Msg{Kind: 3, From: api.Addr{Site: 1, Node: 8}, To: api.Addr{Site: 16}, Id: 1<<63 - 1, N: 300, For: 8, Code: 999, Key: "key",
		Recs: []api.Rec{rec("k", ver(1, 1), gone), rec("l")}, Vec: []int64{0, api.MaxCount}, Path: []int{15, 0},
		Hashes: []uint64{1<<64 - 1, 0, 1 << 32}, Route: []int{1, 16, 1}}
}

func least() api.Msg {
	return api.Msg{Kind: 1, From: api.Addr{Site: 1}, To: api.Addr{Site: 1}}
}

func TestSets(t *testing.T) {
	b, e := PutSet([]api.Span{sp(1, 1, 3)})
	if e != 0 || !bytes.Equal(b, []byte{1, 1, 1, 2}) {
		t.Error(b, e)
	}
	for _, l := range [][]api.Span{nil, {sp(1, 1, 3), sp(1, 5, 5), sp(16, 1, api.MaxCount)}} {
		b, _ := PutSet(l)
		if got, e := Set(b); e != 0 || !slices.Equal(got, l) {
			t.Error(l, got, e)
		}
	}
	if b, e := PutSet([]api.Span{sp(1, 3, 1)}); b != nil || e != api.ErrArg {
		t.Error(b, e)
	}
	huge := append([]byte{1, 1}, append(num.PutNum(1<<63-1), num.PutNum(1<<63-1)...)...)
	for _, b := range [][]byte{nil, {1, 1, 1, 2, 0}, {1, 1, 1}, {2, 1, 1, 2}, {1, 1, 0, 2}, {1, 0, 1, 2}, {1, 17, 1, 2}, {2, 1, 1, 0, 1, 2, 0}, {2, 2, 1, 0, 1, 1, 0}, {128, 0}, {255, 255, 255, 255, 255, 255, 255, 255, 127}, huge} {
		if got, e := Set(b); got != nil || e != api.ErrForm {
			t.Error(b, got, e)
		}
	}
}

func TestRecs(t *testing.T) {
	if b, e := PutRec(rec("k")); e != 0 || !bytes.Equal(b, []byte{1, 'k', 0}) {
		t.Error(b, e)
	}
	want := []byte{1, 'k', 2, 1, 1, 0, 0, 1, 'v', 2, 172, 2, 1, 1, 2, 3, 1}
	b, e := PutRec(rec("k", ver(1, 1), gone))
	if e != 0 || !bytes.Equal(b, want) {
		t.Error(b, e)
	}
	if got, e := Rec(want); e != 0 || !reflect.DeepEqual(got, rec("k", api.Ver{Dot: api.Dot{S: 1, N: 1}, Val: "v"}, gone)) {
		t.Error(got, e)
	}
	for cut := range want {
		if got, e := Rec(want[:cut]); e != api.ErrForm || !reflect.DeepEqual(got, api.Rec{}) {
			t.Error(cut, got, e)
		}
	}
	long := strings.Repeat("k", 33)
	for _, r := range []api.Rec{rec(""), rec(long), rec("k", api.Ver{}), rec("k", ver(1, 1), ver(1, 2, sp(1, 1, 1)))} {
		if RightRec(r) {
			t.Error(r)
		}
		if b, e := PutRec(r); b != nil || e != api.ErrArg {
			t.Error(r, b, e)
		}
	}
	if !RightRec(rec(long[:32])) || !RightRec(rec("\x00", gone)) {
		t.Error("right ones")
	}
	for _, b := range [][]byte{nil, {0, 0}, append(num.PutText(long), 0), {1, 'k', 0, 0}, {1, 'k', 1, 1, 1, 0, 2}, {1, 'k', 1, 1, 1, 0, 1, 0}, {1, 'k', 1, 1, 1, 0, 128, 0}, {1, 'k', 2, 1, 1, 0, 1, 1, 1, 0, 1}, append([]byte{1, 'k', 1, 1, 1, 0, 0}, num.PutText(strings.Repeat("v", 257))...)} {
		if got, e := Rec(b); e != api.ErrForm || got.Key != "" || got.Vers != nil {
			t.Error(b, got, e)
		}
	}
}

func TestMsgBytes(t *testing.T) {
	m := api.Msg{Kind: 10, From: api.Addr{Site: 1, Node: 2}, To: api.Addr{Site: 3, Node: 4}, Id: 5, N: 6, For: 7, Code: 300, Key: "k",
		Recs: []api.Rec{rec("l")}, Vec: []int64{8}, Path: []int{9, 10}, Hashes: []uint64{11<<32 | 12}, Route: []int{13}}
	want, _ := frame.Put([]byte{10, 1, 2, 3, 4, 5, 6, 7, 172, 2, 1, 'k', 1, 1, 'l', 0, 1, 8, 2, 9, 10, 1, 11, 12, 1, 13})
	if b, e := PutMsg(m); e != 0 || !bytes.Equal(b, want) {
		t.Error(b, e)
	}
	for _, m := range []api.Msg{m, full(), least()} {
		b, e := PutMsg(m)
		if got, e2 := Msg(b); e != 0 || e2 != 0 || !reflect.DeepEqual(got, m) {
			t.Error(got, e, e2)
		}
	}
}

// bytesOf tells what would stand in a message's frame, right or not.
func bytesOf(m api.Msg) []byte {
	var b []byte
	put := func(list ...int64) {
		for _, n := range list {
			b = append(b, num.PutNum(n)...)
		}
	}
	put(int64(m.Kind), int64(m.From.Site), int64(m.From.Node), int64(m.To.Site), int64(m.To.Node), m.Id, m.N, int64(m.For), int64(m.Code))
	b = append(b, num.PutText(m.Key)...)
	put(int64(len(m.Recs)))
	for _, r := range m.Recs {
		b = append(b, num.PutText(r.Key)...)
		put(int64(len(r.Vers)))
		for _, v := range r.Vers {
			put(int64(v.Dot.S), v.Dot.N, int64(len(v.Past)))
			for _, s := range v.Past {
				put(int64(s.S), s.From, s.To-s.From)
			}
			if v.Gone {
				put(1)
				continue
			}
			put(0)
			b = append(b, num.PutText(v.Val)...)
		}
	}
	put(int64(len(m.Vec)))
	put(m.Vec...)
	put(int64(len(m.Path)))
	for _, d := range m.Path {
		put(int64(d))
	}
	put(int64(len(m.Hashes)))
	for _, h := range m.Hashes {
		put(int64(h>>32), int64(h&(1<<32-1)))
	}
	put(int64(len(m.Route)))
	for _, s := range m.Route {
		put(int64(s))
	}
	return b
}

func wrongMsgs() []api.Msg {
	var l []api.Msg
	add := func(change func(m *api.Msg)) {
		m := full()
		change(&m)
		l = append(l, m)
	}
	for _, kind := range []int{0, 18, -1} {
		add(func(m *api.Msg) { m.Kind = kind })
	}
	for _, a := range []api.Addr{{}, {Site: 17}, {Site: 1, Node: 9}, {Site: 1, Node: -1}} {
		add(func(m *api.Msg) { m.From = a })
		add(func(m *api.Msg) { m.To = a })
	}
	add(func(m *api.Msg) { m.Id = -1 })
	add(func(m *api.Msg) { m.N = -1 })
	add(func(m *api.Msg) { m.For = 9 })
	add(func(m *api.Msg) { m.For = -1 })
	add(func(m *api.Msg) { m.Code = 1000 })
	add(func(m *api.Msg) { m.Code = -1 })
	add(func(m *api.Msg) { m.Key = strings.Repeat("k", 33) })
	add(func(m *api.Msg) { m.Recs[1].Key = "" })
	add(func(m *api.Msg) { m.Vec = make([]int64, 17) })
	add(func(m *api.Msg) { m.Vec[0] = -1 })
	add(func(m *api.Msg) { m.Vec[0] = api.MaxCount + 1 })
	add(func(m *api.Msg) { m.Path = []int{1, 2, 3} })
	add(func(m *api.Msg) { m.Path[1] = 16 })
	add(func(m *api.Msg) { m.Path[1] = -1 })
	add(func(m *api.Msg) { m.Hashes = make([]uint64, 17) })
	add(func(m *api.Msg) { m.Route = make([]int, 17) })
	add(func(m *api.Msg) { m.Route[0] = 0 })
	add(func(m *api.Msg) { m.Route[0] = 17 })
	return l
}

func TestWrongMsgs(t *testing.T) {
	if !RightMsg(full()) || !RightMsg(least()) {
		t.Error("right ones")
	}
	most := least()
	most.Kind, most.Vec, most.Hashes = 17, make([]int64, 16), make([]uint64, 16)
	most.Key = strings.Repeat("k", 32)
	most.Route = slices.Repeat([]int{16}, 16)
	if !RightMsg(most) {
		t.Error("most")
	}
	for i, m := range wrongMsgs() {
		if RightMsg(m) {
			t.Error(i, m)
		}
		if b, e := PutMsg(m); b != nil || e != api.ErrArg {
			t.Error(i, b, e)
		}
		// The bytes that a wrong message would have are none (numbers below 0 have no bytes).
		b, _ := frame.Put(bytesOf(m))
		negative := m.Kind < 0 || m.From.Node < 0 || m.To.Node < 0 || m.Id < 0 || m.N < 0 || m.For < 0 || m.Code < 0 || len(m.Vec) > 0 && m.Vec[0] < 0 || len(m.Path) == 2 && m.Path[1] < 0
		if got, e := Msg(b); !negative && (e != api.ErrForm || !reflect.DeepEqual(got, api.Msg{})) {
			t.Error(i, got, e)
		}
	}
}

func TestMsgErrors(t *testing.T) {
	b, _ := PutMsg(full())
	for cut := range b {
		if got, e := Msg(b[:cut]); e != api.ErrShort || got.Kind != 0 {
			t.Fatal(cut, e)
		}
	}
	if _, e := Msg(append(slices.Clone(b), 0)); e != api.ErrForm {
		t.Error(e)
	}
	spoilt := slices.Clone(b)
	spoilt[len(spoilt)-1] ^= 4
	if _, e := Msg(spoilt); e != api.ErrSum {
		t.Error(e)
	}
	if _, e := Msg(num.PutNum(api.MaxFrame + 1)); e != api.ErrLong {
		t.Error(e)
	}
	if _, e := Msg([]byte{128, 0}); e != api.ErrForm {
		t.Error(e)
	}
	body, _, _ := frame.Next(b, 0)
	for cut := range body {
		short, _ := frame.Put(body[:cut])
		if _, e := Msg(short); e != api.ErrForm {
			t.Fatal(cut, e)
		}
	}
	longer, _ := frame.Put(append(slices.Clone(body), 0))
	if _, e := Msg(longer); e != api.ErrForm {
		t.Error(e)
	}
	big := least()
	for range 5000 {
		big.Recs = append(big.Recs, rec("k", api.Ver{Dot: api.Dot{S: 1, N: 1}, Val: strings.Repeat("x", 256)}))
	}
	if b, e := PutMsg(big); b != nil || e != api.ErrLong {
		t.Error(len(b), e)
	}
}

func TestBytesAreTheOnlyOnes(t *testing.T) {
	b, _ := PutMsg(full())
	body, _, _ := frame.Next(b, 0)
	for i := range body {
		for x := range 256 {
			other := slices.Clone(body)
			other[i] = byte(x)
			in, _ := frame.Put(other)
			m, e := Msg(in)
			if e != 0 {
				continue
			}
			if again, e := PutMsg(m); e != 0 || !bytes.Equal(again, in) {
				t.Fatal(i, x)
			}
		}
	}
}

func TestNothingIsShared(t *testing.T) {
	m := full()
	b, _ := PutMsg(m)
	m.Recs[0].Vers[1].Past[0].S = 9
	got, _ := Msg(b)
	for i := range b {
		b[i] = 0
	}
	if got.Recs[0].Vers[1].Past[0].S != 1 || got.Key != "key" {
		t.Error("shared")
	}
	gone.Past[0].S = 1
}
