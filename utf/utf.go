// Package utf is layer 1, texts as UTF-8: see shared/doc/01-utf.md.
package utf

import (
	"iter"
	"strings"
)

// lead is how the first byte of points of one length looks: under mask it is mark, and the rest are the point's upper bits. most is the greatest point of that length.
type lead struct {
	mask, mark byte
	most       int
}

// leads are those of points of one, two, three and four bytes.
var leads = [4]lead{
	{mask: 0x80, mark: 0x00, most: 0x7f},
	{mask: 0xe0, mark: 0xc0, most: 0x7ff},
	{mask: 0xf0, mark: 0xe0, most: 0xffff},
	{mask: 0xf8, mark: 0xf0, most: 0x10ffff},
}

// How a byte behind the first one looks: under restMask it is restMark.
const (
	restMask = 0xc0
	restMark = 0x80
	restBits = 6
)

// The numbers of surrogates are no points.
const (
	firstSurrogate = 0xd800
	lastSurrogate  = 0xdfff
)

// none is told in place of a point, a place or a number, where there is none.
const none = -1

// Next is the point whose bytes begin at a place of s, and how many they are; 0, 0, if none begins there.
func Next(s string, at int) (point, n int) {
	if at < 0 || at >= len(s) {
		return 0, 0
	}
	n = leadSize(s[at])
	if n == 0 || n > len(s)-at {
		return 0, 0
	}
	point = int(s[at] &^ leads[n-1].mask)
	for _, b := range []byte(s[at+1 : at+n]) {
		if b&restMask != restMark {
			return 0, 0
		}
		point = point<<restBits | int(b&^restMask)
	}
	// This asks for surrogates, points beyond the last one, and bytes too long for theirs at once.
	if pointSize(point) != n {
		return 0, 0
	}
	return point, n
}

// Encode are a point's bytes; nothing, false, if it is none.
func Encode(point int) (string, bool) {
	n := pointSize(point)
	if n == 0 {
		return "", false
	}
	l := make([]byte, n)
	for i := n - 1; i > 0; i-- {
		l[i] = restMark | byte(point)&^restMask
		point >>= restBits
	}
	l[0] = leads[n-1].mark | byte(point)
	return string(l), true
}

// Valid tells whether bytes of points, one behind the other, make up s.
func Valid(s string) bool {
	return Bad(s) == none
}

// Count is how many points a valid text has; -1 of another.
func Count(s string) int {
	if !Valid(s) {
		return none
	}
	n := 0
	for range points(s) {
		n++
	}
	return n
}

// Points are all points of a valid text; nothing, false of another.
func Points(s string) ([]int, bool) {
	if !Valid(s) {
		return nil, false
	}
	var l []int
	for _, point := range points(s) {
		l = append(l, point)
	}
	return l, true
}

// Cut are the bytes of the first n points of a valid text; nothing, false of another.
func Cut(s string, n int) (string, bool) {
	if !Valid(s) {
		return "", false
	}
	end := len(s)
	left := max(n, 0)
first:
	for at := range points(s) {
		switch left {
		case 0:
			end = at
			break first
		default:
			left--
		}
	}
	// A piece of s would keep all of s in memory.
	return strings.Clone(s[:end]), true
}

// Bad is the first place, going over s point by point, at which none begins; -1, if there is none.
func Bad(s string) int {
	for at, point := range points(s) {
		if point == none {
			return at
		}
	}
	return none
}

// points tells the points of s, each with its place, up to the first place at which none begins: that one it tells last, with none as its point.
func points(s string) iter.Seq2[int, int] {
	return func(yield func(at, point int) bool) {
		for at := 0; at < len(s); {
			point, n := Next(s, at)
			if n == 0 {
				yield(at, none)
				return
			}
			if !yield(at, point) {
				return
			}
			at += n
		}
	}
}

// leadSize is how many bytes a point has that begins with this one; 0, if none does.
func leadSize(first byte) int {
	for i, l := range leads {
		if first&l.mask == l.mark {
			return i + 1
		}
	}
	return 0
}

// pointSize is how many bytes a point has; 0, if the number is no point.
func pointSize(point int) int {
	if point < 0 || point >= firstSurrogate && point <= lastSurrogate {
		return 0
	}
	for i, l := range leads {
		if point <= l.most {
			return i + 1
		}
	}
	return 0
}
