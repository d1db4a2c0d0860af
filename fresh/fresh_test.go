package fresh

import (
	"reflect"
	"testing"

	"firth/api"
)

func TestCopiesShareNothing(t *testing.T) {
	make1 := func() []api.Rec {
		return []api.Rec{{Key: "k", Vers: []api.Ver{{Dot: api.Dot{S: 1, N: 2}, Past: []api.Span{{S: 1, From: 1, To: 1}}, Val: "v"}}}, {Key: "l"}}
	}
	in := make1()
	out := Recs(in)
	if !reflect.DeepEqual(in, out) {
		t.Error(out)
	}
	out[0].Vers[0].Past[0].S = 9
	out[0].Vers[0].Val = "w"
	out[1].Key = "m"
	if !reflect.DeepEqual(in, make1()) {
		t.Error(in)
	}
	if len(Recs(nil)) != 0 || len(Vers([]api.Ver{})) != 0 {
		t.Error("not empty")
	}
}
