// Package word knows the rows of a specification, and the words that they allow.
package word

import (
	"refill/api"
	"refill/draw"
)

// MayBe tells whether a specification may be.
func MayBe(s api.Spec) bool {
	if s.Data < 1 || s.Data > api.MaxData {
		return false
	}
	if s.Spare < 1 || s.Spare > api.MaxSpare {
		return false
	}
	if s.Ones < 1 || s.Ones > s.Spare {
		return false
	}
	return s.Seed >= 0 && s.Seed <= api.MaxSeed
}

// Rows gives the numbers of the pieces in each row, in rising order (P3).
func Rows(s api.Spec) ([][]int, api.Errno) {
	if !MayBe(s) {
		return nil, api.ErrSpec
	}
	// Each row grows by itself from nothing, so that no two share memory.
	rows := make([][]int, s.Spare)
	drawer := draw.From(s.Seed)
	for piece := 0; piece < s.Data; piece++ {
		chosen := choose(drawer, s.Spare, s.Ones)
		for i := range rows {
			if chosen[i] {
				rows[i] = append(rows[i], piece)
			}
		}
	}
	for i := range rows {
		if i > 0 {
			rows[i] = append(rows[i], s.Data+i-1)
		}
		rows[i] = append(rows[i], s.Data+i)
	}
	return rows, api.OK
}

// choose draws the rows of one piece of data: for each of them, whether the piece is in it.
func choose(drawer *draw.Drawer, rows, ones int) [api.MaxSpare]bool {
	var chosen [api.MaxSpare]bool
	for free := rows; free > rows-ones; free-- {
		d := drawer.Below(free)
		i := freeAt(chosen, d)
		chosen[i] = true
	}
	return chosen
}

// freeAt gives the row at place d of those that are not chosen; the last row, if there are not so many.
func freeAt(chosen [api.MaxSpare]bool, d int) int {
	for i := range chosen {
		if !chosen[i] && d == 0 {
			return i
		}
		if !chosen[i] {
			d--
		}
	}
	return api.MaxSpare - 1
}
