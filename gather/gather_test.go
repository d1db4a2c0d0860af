package gather

import (
	"slices"
	"testing"

	"firth/api"
)

func sp(s int, from, to int64) api.Span { return api.Span{S: s, From: from, To: to} }

func TestSpans(t *testing.T) {
	a := []api.Span{sp(2, 1, 3), sp(2, 9, 9)}
	got := Spans(a, nil, []api.Span{sp(1, 5, 5), sp(2, 2, 8)}, Dot(api.Dot{S: 1, N: 4}), []api.Span{sp(3, 1, api.MaxCount)})
	if !slices.Equal(got, []api.Span{sp(1, 4, 5), sp(2, 1, 9), sp(3, 1, api.MaxCount)}) {
		t.Error(got)
	}
	got[1].S = 7
	if a[0] != sp(2, 1, 3) || len(Spans()) != 0 || len(Spans(nil, nil)) != 0 {
		t.Error("changed")
	}
	var many []api.Span
	for i := range int64(3000) {
		many = append(many, sp(1, 2*i+1, 2*i+1))
	}
	if got := Spans(many, many); !slices.Equal(got, many) {
		t.Error(len(got))
	}
}
