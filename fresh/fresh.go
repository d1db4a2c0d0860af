// Package fresh makes copies of what the layers share, which have no memory in common with what they were made of.
package fresh

import (
	"slices"

	"firth/api"
)

// List copies a list, each item by one.
func List[T any](l []T, one func(T) T) []T {
	if len(l) == 0 {
		return nil
	}
	out := make([]T, len(l))
	for i, x := range l {
		out[i] = one(x)
	}
	return out
}

// Ver copies a version.
func Ver(v api.Ver) api.Ver {
	v.Past = slices.Clone(v.Past)
	return v
}

// Vers copies versions.
func Vers(l []api.Ver) []api.Ver {
	return List(l, Ver)
}

// Rec copies a record.
func Rec(r api.Rec) api.Rec {
	r.Vers = Vers(r.Vers)
	return r
}

// Recs copies records.
func Recs(l []api.Rec) []api.Rec {
	return List(l, Rec)
}
