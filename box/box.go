// Package box holds pieces of a word, and works out what follows from them.
package box

import (
	"refill/api"
	"refill/word"
)

const places = api.MaxData + api.MaxSpare

// sum is a piece that is the sum of some data. Of these each has a bit in of: piece 0 the lowest.
type sum struct {
	of    int
	piece string
}

// Box keeps sums, not the pieces that were put in: what follows is the same, and there are never more sums than data.
type Box struct {
	data, count, size int
	// of tells, for each place, of which data the piece there is the sum.
	of [places]int
	// known holds at j a sum whose highest data is j; where none is known, one of no data.
	known [api.MaxData]sum
}

// New makes an empty box (P6).
func New(s api.Spec, size int) (Box, api.Errno) {
	rows, e := word.Rows(s)
	if e != api.OK {
		return Box{}, e
	}
	if size < 1 || size > api.MaxSize {
		return Box{}, api.ErrArg
	}
	return Box{data: s.Data, count: s.Data + s.Spare, size: size, of: dataOf(s.Data, rows)}, api.OK
}

// dataOf tells for each place of which data the piece there is the sum.
func dataOf(data int, rows [][]int) [places]int {
	var of [places]int
	for j := 0; j < data; j++ {
		of[j] = 1 << j
	}
	for i, row := range rows {
		last := data + i
		for _, n := range row {
			// The last piece of a row is the sum of the others, which stand before it.
			if n < last {
				of[last] ^= of[n]
			}
		}
	}
	return of
}

// Put puts a piece in (P7).
func (b *Box) Put(i int, piece string) api.Errno {
	if i < 0 || i >= b.count {
		return api.ErrArg
	}
	if len(piece) != b.size {
		return api.ErrShape
	}
	left := b.without(b.of[i], piece)
	if left.of != 0 {
		top := highest(left.of)
		b.known[top] = left
		return api.OK
	}
	if left.piece != noughts(b.size) {
		return api.ErrContrary
	}
	return api.OK
}

// Get gives the piece that follows (P8).
func (b *Box) Get(i int) (string, api.Errno) {
	if i < 0 || i >= b.count {
		return "", api.ErrArg
	}
	// What is taken away from noughts until no data is left is the piece itself.
	left := b.without(b.of[i], noughts(b.size))
	if left.of != 0 {
		return "", api.ErrOpen
	}
	return left.piece, api.OK
}

// Data gives all data, one piece after the other; ErrOpen, if one of them does not follow.
func (b *Box) Data() (string, api.Errno) {
	data := make([]byte, 0, api.MaxData*api.MaxSize)
	for i := 0; i < b.data; i++ {
		piece, e := b.Get(i)
		if e != api.OK {
			return "", e
		}
		data = append(data, piece...)
	}
	return string(data), api.OK
}

// Need tells how many more pieces it takes at least (P9): each that does not follow yet makes one more sum known, and as many as there are data tell all.
func (b *Box) Need() int {
	need := 0
	for j := 0; j < b.data; j++ {
		if b.known[j].of == 0 {
			need++
		}
	}
	return need
}

// without takes the known sums away from a piece that is the sum of these data. If data are left, nothing is known yet whose highest is theirs.
func (b *Box) without(of int, piece string) sum {
	left := []byte(piece)
	// From the highest on, as a known sum brings in lower data alone.
	for j := api.MaxData - 1; j >= 0; j-- {
		known := b.known[j]
		if of&(1<<j) == 0 || known.of == 0 {
			continue
		}
		of ^= known.of
		for k := 0; k < len(left) && k < len(known.piece); k++ {
			left[k] ^= known.piece[k]
		}
	}
	return sum{of: of, piece: string(left)}
}

// highest gives the highest of some data; 0, if there are none.
func highest(of int) int {
	for j := api.MaxData - 1; j > 0; j-- {
		if of&(1<<j) != 0 {
			return j
		}
	}
	return 0
}

// noughts makes a piece of bytes 0.
func noughts(size int) string {
	return string(make([]byte, size))
}
