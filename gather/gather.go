// Package gather makes one list of the spans of several ones, however many there are on the way.
package gather

import (
	"cmp"
	"slices"

	"firth/api"
)

// Spans tells the spans of all dots of lists whose spans have From and To from 1 to MaxCount, in the order of sets
// (layer 3). Whether there are too many of them for a set is up to who asks.
func Spans(lists ...[]api.Span) []api.Span {
	all := slices.Concat(lists...)
	slices.SortFunc(all, func(a, b api.Span) int {
		return cmp.Or(cmp.Compare(a.S, b.S), cmp.Compare(a.From, b.From))
	})
	var out []api.Span
	for _, s := range all {
		last := len(out) - 1
		if last >= 0 && out[last].S == s.S && out[last].To >= s.From-1 {
			out[last].To = max(out[last].To, s.To)
			continue
		}
		out = append(out, s)
	}
	return out
}

// Dot tells the list of one dot.
func Dot(d api.Dot) []api.Span {
	return []api.Span{{S: d.S, From: d.N, To: d.N}}
}
