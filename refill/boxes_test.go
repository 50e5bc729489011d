package refill

import (
	"fmt"
	"math"
	"math/rand"
	"strings"
	"testing"

	"refill/api"
)

func newBox(t *testing.T, s api.Spec, size int) *Box {
	t.Helper()
	b, e := New(s, size)
	if b == nil || e != api.OK {
		t.Fatalf("P6: New(%v, %d) = %v, %d", s, size, b, e)
	}
	return b
}

// wordOf makes a whole word from mixed data.
func wordOf(s api.Spec, size, salt int) []string {
	data := someData(s.Data, size, salt)
	spare, _ := Spare(s, data)
	return join(data, spare)
}

// tell says all that a box answers: at each place the piece in hexadecimal, or a dash; and what it needs.
func tell(b *Box, s api.Spec) string {
	text := ""
	for i := 0; i < s.Data+s.Spare; i++ {
		piece, e := b.Get(i)
		switch {
		case e == api.OK:
			text += fmt.Sprintf("%x ", piece)
		case e == api.ErrOpen && piece == "":
			text += "- "
		default:
			text += fmt.Sprintf("(%q, %d) ", piece, e)
		}
	}
	return text + fmt.Sprint(b.Need())
}

// unknowns finds what follows by another way than the program: each row is an equation between the pieces that were not put in, and these are solved. It gives what tell should say; and false, if the equations contradict one another.
func unknowns(s api.Spec, size int, in map[int]string) (string, bool) {
	n := s.Data + s.Spare
	type line struct {
		at    []bool
		right []byte
	}
	var lines []line
	for _, row := range expectedRows(s) {
		l := line{make([]bool, n), make([]byte, size)}
		for _, i := range row {
			piece, known := in[i]
			if !known {
				l.at[i] = true
				continue
			}
			for k := range l.right {
				l.right[k] ^= piece[k]
			}
		}
		lines = append(lines, l)
	}
	pivot := make([]int, 0, len(lines))
	for i := 0; i < n; i++ {
		done := len(pivot)
		for r := done; r < len(lines); r++ {
			if lines[r].at[i] {
				lines[done], lines[r] = lines[r], lines[done]
				pivot = append(pivot, i)
				break
			}
		}
		if len(pivot) == done {
			continue
		}
		for r := range lines {
			if r != done && lines[r].at[i] {
				for c := range lines[r].at {
					lines[r].at[c] = lines[r].at[c] != lines[done].at[c]
				}
				for k := range lines[r].right {
					lines[r].right[k] ^= lines[done].right[k]
				}
			}
		}
	}
	for _, l := range lines[len(pivot):] {
		if strings.Trim(string(l.right), "\x00") != "" {
			return "", false
		}
	}
	said := make([]string, n)
	for i := range said {
		said[i] = "-"
		if piece, known := in[i]; known {
			said[i] = fmt.Sprintf("%x", piece)
		}
	}
	for r, i := range pivot {
		alone := true
		for c, at := range lines[r].at {
			alone = alone && (c == i || !at)
		}
		if alone {
			said[i] = fmt.Sprintf("%x", lines[r].right)
		}
	}
	return fmt.Sprint(strings.Join(said, " "), " ", n-len(in)-len(pivot)), true
}

func TestNewMakesAnEmptyBox(t *testing.T) {
	for i, s := range someSpecs() {
		size := 1 + i%16
		b := newBox(t, s, size)
		want, _ := unknowns(s, size, nil)
		if got := tell(b, s); got != want || b.Need() != s.Data {
			t.Fatalf("P6, P8, P9: New(%v, %d) tells %s, want %s", s, size, got, want)
		}
	}
}

func TestNewWithWrongArguments(t *testing.T) {
	sizes := []int{0, 17, -1, -16, 32, 65536, math.MinInt, math.MaxInt}
	for _, s := range []api.Spec{spec(1, 1, 1, 0), spec(2, 2, 1, 0), spec(20, 20, 20, 65535)} {
		for _, size := range sizes {
			if b, e := New(s, size); b != nil || e != api.ErrArg {
				t.Errorf("P1, P6: New(%v, %d) = %v, %d", s, size, b, e)
			}
		}
		for size := 1; size <= 16; size++ {
			newBox(t, s, size)
		}
	}
	for _, s := range wrongSpecs {
		for _, size := range append(sizes, 1, 2, 16) {
			if b, e := New(s, size); b != nil || e != api.ErrSpec {
				t.Errorf("P1, P6: New(%v, %d) = %v, %d", s, size, b, e)
			}
		}
	}
}

// step is one Put, its answer, and what the box tells then.
type step struct {
	i     int
	piece string
	e     api.Errno
	told  string
}

func take(t *testing.T, s api.Spec, size int, steps []step) {
	t.Helper()
	b := newBox(t, s, size)
	for n, c := range steps {
		if e := b.Put(c.i, c.piece); e != c.e {
			t.Errorf("P7: %v, step %d: Put(%d, %q) = %d, want %d", s, n, c.i, c.piece, e, c.e)
		}
		if got := tell(b, s); got != c.told {
			t.Errorf("P8, P9: %v, step %d: after Put(%d, %q) the box tells %s, want %s", s, n, c.i, c.piece, got, c.told)
		}
	}
}

func TestBoxesWorkedOutByHand(t *testing.T) {
	two := spec(2, 2, 1, 0)
	take(t, two, 2, []step{
		{0, "ab", api.OK, "6162 - - - 1"},
		{3, "\x02\x06", api.OK, "6162 6364 0206 0206 0"},
		{2, "zz", api.ErrContrary, "6162 6364 0206 0206 0"},
		{1, "cd", api.OK, "6162 6364 0206 0206 0"},
		{2, "\x02\x06", api.OK, "6162 6364 0206 0206 0"},
	})
	take(t, two, 2, []step{
		{3, "\x02\x06", api.OK, "- - 0206 0206 1"},
		{2, "\x02\x06", api.OK, "- - 0206 0206 1"},
		{2, "\x02\x07", api.ErrContrary, "- - 0206 0206 1"},
		{3, "\x82\x06", api.ErrContrary, "- - 0206 0206 1"},
		{1, "\x00\x00", api.OK, "0206 0000 0206 0206 0"},
		{0, "\x00\x00", api.ErrContrary, "0206 0000 0206 0206 0"},
	})
	// one piece of data and its copy
	take(t, spec(1, 1, 1, 65535), 1, []step{
		{1, "\xff", api.OK, "ff ff 0"},
		{0, "\xfe", api.ErrContrary, "ff ff 0"},
		{0, "\xff", api.OK, "ff ff 0"},
	})
	// rows 1 2; 0 2 3; 0 1 3 4: piece 2 is piece 1, piece 3 the sum of 0 and 1, piece 4 noughts
	take(t, spec(2, 3, 2, 1), 1, []step{
		{4, "\x01", api.ErrContrary, "- - - - 00 2"},
		{4, "\x00", api.OK, "- - - - 00 2"},
		{3, "\x3c", api.OK, "- - - 3c 00 1"},
		{2, "\x33", api.OK, "0f 33 33 3c 00 0"},
		{1, "\x32", api.ErrContrary, "0f 33 33 3c 00 0"},
		{0, "\x0f", api.OK, "0f 33 33 3c 00 0"},
	})
	// rows 3; 3 4; 0 1 2 4 5: the pieces 3 and 4 are noughts in every word
	take(t, spec(3, 3, 1, 0), 2, []step{
		{3, "\x00\x01", api.ErrContrary, "- - - 0000 0000 - 3"},
		{4, "\x80\x00", api.ErrContrary, "- - - 0000 0000 - 3"},
		{3, "\x00\x00", api.OK, "- - - 0000 0000 - 3"},
		{5, "\x87\x00", api.OK, "- - - 0000 0000 8700 2"},
		{2, "\x84\x01", api.OK, "- - 8401 0000 0000 8700 1"},
		{0, "\x01\x01", api.OK, "0101 0200 8401 0000 0000 8700 0"},
	})
}

// A spare piece that is noughts in every word follows from nothing, and no other one can be put there.
func TestNoughtsFollowFromNothing(t *testing.T) {
	found := 0
	for i, s := range someSpecs() {
		size := 1 + i%16
		zero := strings.Repeat("\x00", size)
		ones := strings.Repeat("\x00", size-1) + "\x01"
		b := newBox(t, s, size)
		for n := s.Data; n < s.Data+s.Spare; n++ {
			piece, e := b.Get(n)
			if e == api.ErrOpen {
				continue
			}
			found++
			if piece != zero || e != api.OK {
				t.Fatalf("P8: %v: from nothing Get(%d) = %q, %d", s, n, piece, e)
			}
			if e := b.Put(n, ones); e != api.ErrContrary {
				t.Fatalf("P7: %v: Put(%d, %q) = %d", s, n, ones, e)
			}
			if e := b.Put(n, zero); e != api.OK || b.Need() != s.Data {
				t.Fatalf("P7, P9: %v: Put(%d, %q) = %d, Need = %d", s, n, zero, e, b.Need())
			}
		}
	}
	if found < 100 {
		t.Errorf("only %d such pieces were tried", found)
	}
}

func TestPutWithWrongNumbers(t *testing.T) {
	for _, s := range []api.Spec{spec(1, 1, 1, 0), spec(2, 2, 1, 0), spec(20, 20, 20, 65535), spec(20, 1, 1, 3), spec(1, 20, 20, 3)} {
		n := s.Data + s.Spare
		b := newBox(t, s, 2)
		word := wordOf(s, 2, 9)
		for round := 0; round < 2; round++ {
			before := tell(b, s)
			for _, i := range []int{-1, n, n + 1, 40, 41, 64, 256, 65536, -n, 1 << 32, math.MinInt, math.MaxInt} {
				if i >= 0 && i < n {
					continue
				}
				for _, piece := range []string{"ab", "\x00\x00", "", "a", "abc", strings.Repeat("a", 1<<16)} {
					if e := b.Put(i, piece); e != api.ErrArg {
						t.Errorf("P1, P7: %v: Put(%d, %d bytes) = %d", s, i, len(piece), e)
					}
				}
				if piece, e := b.Get(i); piece != "" || e != api.ErrArg {
					t.Errorf("P1, P8: %v: Get(%d) = %q, %d", s, i, piece, e)
				}
			}
			if after := tell(b, s); after != before {
				t.Errorf("P7: %v: errors changed the box from %s to %s", s, before, after)
			}
			// The first and the last number are numbers.
			for _, i := range []int{0, n - 1} {
				if e := b.Put(i, word[i]); e != api.OK {
					t.Errorf("P7: %v: Put(%d, %q) = %d", s, i, word[i], e)
				}
				if piece, e := b.Get(i); piece != word[i] || e != api.OK {
					t.Errorf("P8: %v: Get(%d) = %q, %d, want %q", s, i, piece, e, word[i])
				}
			}
		}
	}
}

func TestPutWithWrongSizes(t *testing.T) {
	s := spec(3, 3, 1, 0)
	for size := 1; size <= 16; size++ {
		b := newBox(t, s, size)
		word := wordOf(s, size, size)
		for _, full := range []bool{false, true} {
			if full {
				for i, piece := range word {
					b.Put(i, piece)
				}
			}
			before := tell(b, s)
			for _, wrong := range []int{0, 1, size - 1, size + 1, 2 * size, 15, 16, 17, 256 + size, 65536 + size, 1 << 20} {
				if wrong == size {
					continue
				}
				// Bytes that would be contrary, were they looked at, and such that would not.
				for _, piece := range []string{strings.Repeat("\x5a", wrong), strings.Repeat("\x00", wrong), (word[0] + strings.Repeat("\x00", 1<<20))[:wrong]} {
					for i := 0; i < 6; i++ {
						if e := b.Put(i, piece); e != api.ErrShape {
							t.Errorf("P1, P7: size %d: Put(%d, %d bytes) = %d", size, i, wrong, e)
						}
					}
				}
			}
			if after := tell(b, s); after != before {
				t.Errorf("P7: size %d: errors changed the box from %s to %s", size, before, after)
			}
		}
	}
}

// Each bit of each piece that follows, changed: contrary; and the box goes on as if it had never come.
func TestEveryWrongBitIsContrary(t *testing.T) {
	for n, s := range []api.Spec{spec(1, 1, 1, 0), spec(2, 2, 1, 0), spec(3, 3, 1, 0), spec(5, 4, 2, 65535), spec(20, 20, 3, 7)} {
		for _, size := range []int{1, 16} {
			b := newBox(t, s, size)
			word := wordOf(s, size, n)
			for i := len(word) - 1; i >= 0; i-- {
				if e := b.Put(i, word[i]); e != api.OK {
					t.Fatalf("P7: %v: Put(%d) = %d", s, i, e)
				}
				for j := range word {
					_, e := b.Get(j)
					if e != api.OK {
						continue
					}
					for bit := 0; bit < 8*size; bit++ {
						wrong := flip(word, j, bit/8, 1<<(bit%8))[j]
						if e := b.Put(j, wrong); e != api.ErrContrary {
							t.Fatalf("P7: %v: Put(%d, %q) = %d beside %q", s, j, wrong, e, word[j])
						}
					}
					if piece, e := b.Get(j); piece != word[j] || e != api.OK {
						t.Fatalf("P7, P8: %v: Get(%d) = %q, %d, want %q", s, j, piece, e, word[j])
					}
				}
			}
			if got := tell(b, s); got != told(word) {
				t.Errorf("P8, P9: %v: a full box tells %s, want %s", s, got, told(word))
			}
		}
	}
}

// told is what a box tells from which a whole word follows.
func told(word []string) string {
	text := ""
	for _, piece := range word {
		text += fmt.Sprintf("%x ", piece)
	}
	return text + "0"
}

// All the pieces of a word, in many orders, some twice; beside each filled box one that is never asked between.
func TestPiecesInAnyOrderAndTwice(t *testing.T) {
	r := rand.New(rand.NewSource(5))
	specs := someSpecs()
	for round := 0; round < 250; round++ {
		s := specs[r.Intn(len(specs))]
		size := 1 + r.Intn(16)
		word := wordOf(s, size, round)
		asked, silent := newBox(t, s, size), newBox(t, s, size)
		in := map[int]string{}
		order := r.Perm(len(word))
		order = append(order[:len(order):len(order)], order[:r.Intn(len(order)+1)]...)
		r.Shuffle(len(order), func(a, b int) { order[a], order[b] = order[b], order[a] })
		last := ""
		for _, i := range order {
			if e := asked.Put(i, word[i]); e != api.OK {
				t.Fatalf("P7: %v: Put(%d, %q) = %d", s, i, word[i], e)
			}
			if e := silent.Put(i, word[i]); e != api.OK {
				t.Fatalf("P7: %v: Put(%d, %q) = %d in a box that was not asked", s, i, word[i], e)
			}
			in[i] = word[i]
			want, may := unknowns(s, size, in)
			if last = tell(asked, s); !may || last != want {
				t.Fatalf("P8, P9: %v with %x tells %s, want %s", s, in, last, want)
			}
			if again := tell(asked, s); again != want {
				t.Fatalf("P2, P8: %v: asked again the box tells %s, it was %s", s, again, want)
			}
		}
		if got := tell(silent, s); got != last || last != told(word) {
			t.Fatalf("P2: %v: the boxes tell %s and %s, want %s", s, last, got, told(word))
		}
	}
}

// Pieces at random, right and wrong: the equations say what may be put in and what follows.
func TestMixedPieces(t *testing.T) {
	r := rand.New(rand.NewSource(6))
	specs := someSpecs()
	refused := 0
	for round := 0; round < 200; round++ {
		s := specs[r.Intn(len(specs))]
		size := 1 + r.Intn(2)
		word := wordOf(s, size, round)
		b := newBox(t, s, size)
		in := map[int]string{}
		for n := 0; n < 2*len(word); n++ {
			i := r.Intn(len(word))
			piece := word[i]
			if r.Intn(3) == 0 {
				piece = someData(1, size, r.Int())[0]
			}
			with := map[int]string{i: piece}
			for k, v := range in {
				with[k] = v
			}
			_, may := unknowns(s, size, with)
			if old, there := in[i]; there {
				may = old == piece
			}
			want := api.ErrContrary
			if may {
				want = api.OK
				in[i] = piece
			} else {
				refused++
			}
			if e := b.Put(i, piece); e != want {
				t.Fatalf("P7: %v with %x: Put(%d, %q) = %d, want %d", s, in, i, piece, e, want)
			}
			text, _ := unknowns(s, size, in)
			if got := tell(b, s); got != text {
				t.Fatalf("P8, P9: %v with %x tells %s, want %s", s, in, got, text)
			}
		}
	}
	if refused < 200 {
		t.Errorf("only %d contrary pieces were tried", refused)
	}
}

// bitWords: all words of single bits, each as a number whose bit i is the piece i.
func bitWords(s api.Spec) []int {
	rows := expectedRows(s)
	var words []int
	for w := 0; w < 1<<(s.Data+s.Spare); w++ {
		fits := true
		for _, row := range rows {
			sum := 0
			for _, n := range row {
				sum ^= w >> n & 1
			}
			fits = fits && sum == 0
		}
		if fits {
			words = append(words, w)
		}
	}
	return words
}

// leastPlaces tries every set of places: the least one at which no two of the words are alike. (The words that are left all differ in the same ways, so what is put in does not matter.)
func leastPlaces(words []int, n int) int {
	least := n
	for set := 0; set < 1<<n; set++ {
		places := 0
		for i := 0; i < n; i++ {
			places += set >> i & 1
		}
		if places >= least {
			continue
		}
		seen := map[int]bool{}
		for _, w := range words {
			seen[w&set] = true
		}
		if len(seen) == len(words) {
			least = places
		}
	}
	return least
}

// For small specifications, what the promises say in so many words: all words are tried, and all sets of places.
func TestSmallBoxesAgainstAllWords(t *testing.T) {
	for _, s := range []api.Spec{spec(1, 1, 1, 0), spec(1, 3, 1, 2), spec(2, 2, 1, 0), spec(2, 2, 2, 5), spec(3, 3, 1, 0), spec(3, 3, 2, 8), spec(4, 3, 2, 65535), spec(4, 2, 1, 9), spec(5, 3, 3, 1)} {
		n := s.Data + s.Spare
		all := bitWords(s)
		for set := 0; set < 1<<n; set++ {
			b := newBox(t, s, 1)
			from := all[set*7%len(all)]
			var left []int
			for _, w := range all {
				if w&set == from&set {
					left = append(left, w)
				}
			}
			for i := 0; i < n; i++ {
				if set>>i&1 == 1 {
					if e := b.Put(i, string([]byte{byte(from >> i & 1)})); e != api.OK {
						t.Fatalf("P7: %v: Put(%d) = %d", s, i, e)
					}
				}
			}
			for i := 0; i < n; i++ {
				bits := [2]bool{}
				for _, w := range left {
					bits[w>>i&1] = true
				}
				piece, e := b.Get(i)
				switch {
				case bits[0] && bits[1] && (piece != "" || e != api.ErrOpen):
					t.Fatalf("P8: %v with places %b: Get(%d) = %q, %d", s, set, i, piece, e)
				case bits[0] && !bits[1] && (piece != "\x00" || e != api.OK):
					t.Fatalf("P8: %v with places %b: Get(%d) = %q, %d", s, set, i, piece, e)
				case !bits[0] && bits[1] && (piece != "\x01" || e != api.OK):
					t.Fatalf("P8: %v with places %b: Get(%d) = %q, %d", s, set, i, piece, e)
				}
			}
			if need, want := b.Need(), leastPlaces(left, n); need != want {
				t.Fatalf("P9: %v with places %b: Need = %d, want %d", s, set, need, want)
			}
		}
	}
}

// Need falls by one with each piece that did not follow, else it stays; as many such pieces as it says fill the box.
func TestNeedAtEachStep(t *testing.T) {
	for n, s := range someSpecs() {
		word := wordOf(s, 1, n)
		b := newBox(t, s, 1)
		need := s.Data
		for k := range word {
			i := (k*7 + n) % len(word)
			if len(word)%7 == 0 {
				i = (k*11 + n) % len(word)
			}
			if b.Need() != need {
				t.Fatalf("P9: %v: Need = %d, want %d", s, b.Need(), need)
			}
			if _, e := b.Get(i); e == api.ErrOpen {
				need--
			}
			b.Put(i, word[i])
		}
		if b.Need() != 0 || need != 0 {
			t.Fatalf("P9: %v: a full box: Need = %d, want %d", s, b.Need(), need)
		}
	}
}

// Boxes of one specification and of others, filled in turn: each tells what its own pieces say.
func TestBoxesDoNotTouchOneAnother(t *testing.T) {
	specs := []api.Spec{spec(4, 5, 2, 10), spec(4, 5, 2, 10), spec(4, 5, 2, 11), spec(9, 3, 1, 0), spec(20, 20, 5, 65535)}
	sizes := []int{2, 2, 2, 1, 16}
	boxes := make([]*Box, len(specs))
	ins := make([]map[int]string, len(specs))
	for n, s := range specs {
		boxes[n] = newBox(t, s, sizes[n])
		ins[n] = map[int]string{}
	}
	r := rand.New(rand.NewSource(7))
	for round := 0; round < 120; round++ {
		n := r.Intn(len(boxes))
		s := specs[n]
		word := wordOf(s, sizes[n], n)
		i := r.Intn(len(word))
		if e := boxes[n].Put(i, word[i]); e != api.OK {
			t.Fatalf("P2, P7: box %d: Put(%d, %q) = %d", n, i, word[i], e)
		}
		ins[n][i] = word[i]
		boxes[n].Put(i, strings.Repeat("\x77", sizes[n]+round%2))
		boxes[n].Put(-1, word[i])
		Rows(s)
		Spare(s, word[:s.Data])
		New(s, sizes[n])
		New(spec(0, 0, 0, 0), 1)
		for m := range boxes {
			want, _ := unknowns(specs[m], sizes[m], ins[m])
			if got := tell(boxes[m], specs[m]); got != want {
				t.Fatalf("P2: after a Put into box %d, box %d tells %s, want %s", n, m, got, want)
			}
		}
	}
}

// What is known about words stays the same, whatever boxes hold.
func TestWordsBesideBoxes(t *testing.T) {
	s := spec(5, 4, 2, 31)
	word := wordOf(s, 3, 1)
	b := newBox(t, s, 3)
	for i := len(word) - 1; i >= 0; i-- {
		b.Put(i, word[i])
		b.Put(i, "---")
		if rows, e := Rows(s); e != api.OK || fmt.Sprint(rows) != fmt.Sprint(expectedRows(s)) {
			t.Errorf("P3: beside a box Rows(%v) = %v, %d", s, rows, e)
		}
		if spare, e := Spare(s, word[:5]); e != api.OK || fmt.Sprint(spare) != fmt.Sprint(word[5:]) {
			t.Errorf("P4: beside a box Spare(%v) = %q, %d", s, spare, e)
		}
		if fits, e := Fits(s, word); !fits || e != api.OK {
			t.Errorf("P5: beside a box Fits(%v) = %v, %d", s, fits, e)
		}
		if fits, e := Fits(s, flip(word, i, 1, 4)); fits || e != api.OK {
			t.Errorf("P5: beside a box Fits(%v) of a wrong word = %v, %d", s, fits, e)
		}
	}
}

// What a box works out is the word that Spare makes and Fits knows.
func TestWhatFollowsFits(t *testing.T) {
	for n, s := range someSpecs() {
		size := 1 + n%16
		b := newBox(t, s, size)
		filled := 0
		for i := s.Data + s.Spare - 1; i >= 0; i-- {
			if _, e := b.Get(i); e == api.ErrOpen {
				// Any piece may be where none follows.
				if e := b.Put(i, someData(1, size, n+i)[0]); e != api.OK {
					t.Fatalf("P7: %v: Put(%d) = %d, where nothing follows", s, i, e)
				}
				filled++
			}
		}
		pieces := make([]string, s.Data+s.Spare)
		for i := range pieces {
			pieces[i], _ = b.Get(i)
		}
		if fits, e := Fits(s, pieces); !fits || e != api.OK || filled != s.Data || b.Need() != 0 {
			t.Fatalf("P5, P8, P9: %v: Fits(%q) = %v, %d; filled by %d pieces, Need = %d", s, pieces, fits, e, filled, b.Need())
		}
	}
}
