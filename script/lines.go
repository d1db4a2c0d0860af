package script

import (
	"strings"

	"firth/api"
	"firth/num"
	"firth/world"
)

const hexDigits = "0123456789abcdef"

// A form is how lines of one kind are read and printed: field by field, and then a list, if they have one.
type form struct {
	kind   int
	on     bool
	list   bool
	fields []field
}

// A field is one word of a line.
type field struct {
	read  func(e *world.Event, word string) bool
	print func(e world.Event) string
}

// number tells the number that a word says, if it is at most so great.
func number(word string, most int64) (int, bool) {
	n, e := num.Read(word)
	if e != api.OK || n > most {
		return 0, false
	}
	return int(n), true
}

func digits(n int) string {
	return num.Digits(int64(n))
}

// whole makes the field of a number that stands where at says.
func whole(at func(*world.Event) *int) field {
	return field{
		read: func(e *world.Event, word string) bool {
			n, ok := number(word, mostNumber)
			*at(e) = n
			return ok
		},
		print: func(e world.Event) string { return digits(*at(&e)) },
	}
}

// text makes the field of a word that stands where at says.
func text(at func(*world.Event) *string) field {
	return field{
		read: func(e *world.Event, word string) bool {
			*at(e) = word
			return true
		},
		print: func(e world.Event) string { return *at(&e) },
	}
}

// small makes the field of X.
func small() field {
	return field{
		read: func(e *world.Event, word string) bool {
			n, ok := number(word, 255)
			e.X = byte(n)
			return ok
		},
		print: func(e world.Event) string { return digits(int(e.X)) },
	}
}

// data makes the field of Data.
func data() field {
	return field{
		read: func(e *world.Event, word string) bool {
			b, ok := unhex(word)
			e.Data = b
			return ok
		},
		print: func(e world.Event) string { return hex(e.Data) },
	}
}

func hex(b []byte) string {
	if len(b) == 0 {
		return "-"
	}
	var out strings.Builder
	for _, c := range b {
		out.WriteByte(hexDigits[c>>4])
		out.WriteByte(hexDigits[c&15])
	}
	return out.String()
}

func unhex(word string) ([]byte, bool) {
	if word == "-" {
		return nil, true
	}
	if len(word)%2 == 1 {
		return nil, false
	}
	var b []byte
	for i := 0; i < len(word); i += 2 {
		upper, lower := strings.IndexByte(hexDigits, word[i]), strings.IndexByte(hexDigits, word[i+1])
		if upper < 0 || lower < 0 {
			return nil, false
		}
		b = append(b, byte(upper<<4|lower))
	}
	return b, true
}

// forms tells how the lines are read that begin with each word.
func forms() map[string]form {
	site := whole(func(e *world.Event) *int { return &e.Site })
	node := whole(func(e *world.Event) *int { return &e.Node })
	sess := whole(func(e *world.Event) *int { return &e.Sess })
	i := whole(func(e *world.Event) *int { return &e.I })
	at := whole(func(e *world.Event) *int { return &e.At })
	keep := whole(func(e *world.Event) *int { return &e.Keep })
	torn := whole(func(e *world.Event) *int { return &e.Torn })
	key := text(func(e *world.Event) *string { return &e.Key })
	val := text(func(e *world.Event) *string { return &e.Val })
	a1 := whole(func(e *world.Event) *int { return &e.A.Site })
	a2 := whole(func(e *world.Event) *int { return &e.A.Node })
	b1 := whole(func(e *world.Event) *int { return &e.B.Site })
	b2 := whole(func(e *world.Event) *int { return &e.B.Node })
	return map[string]form{
		"open":    {kind: world.Open, fields: []field{site}},
		"get":     {kind: world.Get, fields: []field{sess, key}},
		"put":     {kind: world.Put, fields: []field{sess, key, val}},
		"del":     {kind: world.Del, fields: []field{sess, key}},
		"go":      {kind: world.Go, fields: []field{sess, site}},
		"try":     {kind: world.Try, fields: []field{site, key, data()}},
		"deliver": {kind: world.Deliver, fields: []field{i}},
		"lose":    {kind: world.Lose, fields: []field{i}},
		"copy":    {kind: world.Copy, fields: []field{i}},
		"flip":    {kind: world.Flip, fields: []field{i, at, small()}},
		"junk":    {kind: world.Junk, fields: []field{a1, a2, b1, b2, data()}},
		"tick":    {kind: world.Tick},
		"crash":   {kind: world.Crash, fields: []field{site, node, keep, torn}},
		"start":   {kind: world.Start, fields: []field{site, node}},
		"wipe":    {kind: world.Wipe, fields: []field{site, node}},
		"part":    {kind: world.Part, on: true, fields: []field{a1, a2, b1, b2}},
		"join":    {kind: world.Part, fields: []field{a1, a2, b1, b2}},
		"full":    {kind: world.Full, fields: []field{site, i}},
		"mend":    {kind: world.Mend, fields: []field{site, node, i, at}},
		"move":    {kind: world.Move, list: true, fields: []field{site}},
		"heal":    {kind: world.Heal, fields: []field{site, node}},
		"trim":    {kind: world.Trim, fields: []field{site, node}},
	}
}
