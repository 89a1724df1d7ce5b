// Package runes: texts, sign by sign (chapter 1).
package runes

import (
	"azimuth/api"
	"iter"
	"slices"
	"unicode/utf8"
)

// Encode: a sign's bytes.
func Encode(r rune) ([]byte, api.Errno) {
	if !utf8.ValidRune(r) {
		return nil, api.ErrText
	}
	return utf8.AppendRune(nil, r), api.OK
}

// All: each sign's place, and it.
func All(b []byte) iter.Seq2[int, rune] {
	// The iterator outlives this call, and must tell the same whatever becomes of b.
	return signs(slices.Clone(b))
}

// signs is All without the copy, for calls that end ahead of their iterator.
func signs(b []byte) iter.Seq2[int, rune] {
	return func(yield func(int, rune) bool) {
		for at := 0; at < len(b); {
			r, size := utf8.DecodeRune(b[at:])
			// The sign 0xfffd is also what bad bytes decode to, but only these are then of one byte.
			if r == utf8.RuneError && size == 1 {
				return
			}
			if !yield(at, r) {
				return
			}
			at += size
		}
	}
}

// Bad: where no sign stands.
func Bad(b []byte) int {
	end := 0
	for at, r := range signs(b) {
		end = at + utf8.RuneLen(r)
	}
	if end == len(b) {
		return -1
	}
	return end
}

// Count: how many signs.
func Count(b []byte) int {
	n := 0
	signs(b)(func(int, rune) bool {
		n++
		return true
	})
	return n
}

// Where: the line and the column of a place.
func Where(b []byte, at int) (line, column int) {
	line, column = 1, 1
	end := 0
	for place, r := range signs(b) {
		if place >= at {
			return line, column
		}
		line, column = behind(line, column, r == '\n')
		end = place + utf8.RuneLen(r)
	}
	for place := end; place < at && place < len(b); place++ {
		line, column = behind(line, column, b[place] == '\n')
	}
	return line, column
}

// behind: the place behind a sign that stands at line and column.
func behind(line, column int, feed bool) (int, int) {
	if feed {
		return line + 1, 1
	}
	return line, column + 1
}
