package word

import "refill/api"

// Spare gives the spare pieces of the word that has these data (P4).
func Spare(s api.Spec, data []string) ([]string, api.Errno) {
	rows, e := Rows(s)
	if e != api.OK {
		return nil, e
	}
	size := sizeOf(data, s.Data)
	if size == 0 {
		return nil, api.ErrShape
	}
	known := make([]string, 0, s.Data+s.Spare)
	known = append(known, data...)
	spare := make([]string, 0, s.Spare)
	for _, row := range rows {
		// Of each row just the last piece is not known yet, so it is the sum of the others.
		piece := sum(known, row, size)
		known = append(known, piece)
		spare = append(spare, piece)
	}
	return spare, api.OK
}

// Fits tells whether pieces are a word (P5).
func Fits(s api.Spec, pieces []string) (bool, api.Errno) {
	rows, e := Rows(s)
	if e != api.OK {
		return false, e
	}
	size := sizeOf(pieces, s.Data+s.Spare)
	if size == 0 {
		return false, api.ErrShape
	}
	noughts := sum(nil, nil, size)
	for _, row := range rows {
		total := sum(pieces, row, size)
		if total != noughts {
			return false, api.OK
		}
	}
	return true, api.OK
}

// sizeOf gives the size of the pieces; 0, if there are not so many as they should be, or not all of one size that may be.
func sizeOf(pieces []string, count int) int {
	if len(pieces) != count || count < 1 {
		return 0
	}
	size := len(pieces[0])
	if size > api.MaxSize {
		return 0
	}
	for _, piece := range pieces {
		if len(piece) != size {
			return 0
		}
	}
	return size
}

// sum adds up the pieces that have these numbers; a number above those of the pieces adds nothing.
func sum(pieces []string, numbers []int, size int) string {
	total := make([]byte, size)
	for _, n := range numbers {
		if n < 0 || n >= len(pieces) {
			continue
		}
		piece := pieces[n]
		for k := 0; k < size && k < len(piece); k++ {
			total[k] ^= piece[k]
		}
	}
	return string(total)
}
