// Package num is layer 1: numbers and texts as bytes, numbers as digits, and a mark of bytes.
package num

import (
	"firth/api"
)

const (
	mostBytes = 9 // bytes of the longest number: nine times seven bits
	more      = 128
	hashFirst = 14695981039346656037
	hashStep  = 1099511628211
	hashLast  = 18397679294719823053
)

// PutNum tells the bytes of n; one below 0 counts as 0.
func PutNum(n int64) []byte {
	if n < 0 {
		n = 0
	}
	var b []byte
	for n >= more {
		b = append(b, byte(n%more)+more)
		n /= more
	}
	return append(b, byte(n))
}

// Num tells the number whose bytes stand at a place, and the place behind them.
func Num(b []byte, at int) (int64, int, api.Errno) {
	if at < 0 || at > len(b) {
		return 0, 0, api.ErrArg
	}
	var n int64
	count := 0
bytes:
	for {
		if at+count >= len(b) {
			return 0, 0, api.ErrShort
		}
		c := b[at+count]
		switch {
		case count == mostBytes-1 && c >= more, count > 0 && c == 0:
			// A tenth byte, or a nought at the end, would give one number several kinds of bytes.
			return 0, 0, api.ErrForm
		}
		n |= int64(c%more) << (7 * count)
		count++
		if c < more {
			break bytes
		}
	}
	return n, at + count, api.OK
}

// PutText tells a text's bytes.
func PutText(s string) []byte {
	return append(PutNum(int64(len(s))), s...)
}

// Text tells the text of at most so many bytes that stands at a place, and the place behind it.
func Text(b []byte, at, most int) (string, int, api.Errno) {
	n, from, e := Num(b, at)
	if e != api.OK {
		return "", 0, e
	}
	if n > int64(max(most, 0)) {
		return "", 0, api.ErrLong
	}
	if n > int64(len(b)-from) {
		return "", 0, api.ErrShort
	}
	to := from + int(n)
	return string(b[from:to]), to, api.OK
}

// Digits tells n in decimal digits.
func Digits(n int64) string {
	var room [20]byte
	rest := uint64(n)
	if n < 0 {
		rest = -rest
	}
	at := len(room)
	for {
		at--
		room[at] = '0' + byte(rest%10)
		rest /= 10
		if rest == 0 {
			break
		}
	}
	if n < 0 {
		at--
		room[at] = '-'
	}
	return string(room[at:])
}

// Read tells the number from 0 on that has these digits.
func Read(s string) (int64, api.Errno) {
	if s == "" || len(s) > 1 && s[0] == '0' {
		return 0, api.ErrForm
	}
	const most = 1<<63 - 1
	var n int64
	for i := range len(s) {
		if s[i] < '0' || s[i] > '9' {
			return 0, api.ErrForm
		}
		digit := int64(s[i] - '0')
		if n > (most-digit)/10 {
			return 0, api.ErrForm
		}
		n = n*10 + digit
	}
	return n, api.OK
}

// Hash tells the mark of some bytes.
func Hash(b []byte) uint64 {
	h := uint64(hashFirst)
	for _, c := range b {
		h = (h ^ uint64(c)) * hashStep
	}
	h ^= h >> 33
	h *= hashLast
	return h ^ h>>33
}
