package refill

import (
	"fmt"
	"math"
	"reflect"
	"strings"
	"testing"

	"refill/api"
)

func spec(data, spare, ones, seed int) api.Spec {
	return api.Spec{Data: data, Spare: spare, Ones: ones, Seed: seed}
}

// wrongSpecs: each bound of each number overstepped, alone and together with others.
var wrongSpecs = []api.Spec{
	{},
	spec(0, 2, 1, 0), spec(21, 2, 1, 0), spec(-1, 2, 1, 0),
	spec(2, 0, 1, 0), spec(2, 0, 0, 0), spec(2, 21, 1, 0), spec(2, -1, -1, 0),
	spec(2, 2, 0, 0), spec(2, 2, 3, 0), spec(2, 2, -1, 0), spec(2, 20, 21, 0),
	spec(2, 2, 1, -1), spec(2, 2, 1, 65536),
	spec(math.MinInt, 2, 1, 0), spec(math.MaxInt, 2, 1, 0),
	spec(2, math.MinInt, 1, 0), spec(2, math.MaxInt, math.MaxInt, 0),
	spec(2, 2, math.MinInt, 0), spec(2, 2, math.MaxInt, 0),
	spec(2, 2, 1, math.MinInt), spec(2, 2, 1, math.MaxInt),
	spec(math.MaxInt, math.MaxInt, math.MaxInt, math.MaxInt),
	// their Data and Spare together make 4, as those of (2, 2, 1, 0) do
	spec(4, 0, 1, 0), spec(0, 4, 1, 0), spec(-16, 20, 1, 0), spec(24, -20, 1, 0),
}

// someSpecs: the least and the greatest of each number, and what lies between.
func someSpecs() []api.Spec {
	var l []api.Spec
	for _, k := range []int{1, 2, 3, 7, 19, 20} {
		for _, m := range []int{1, 2, 3, 8, 19, 20} {
			for ones := 1; ones <= m; ones++ {
				for _, seed := range []int{0, 1, 77, 4321, 32768, 65534, 65535} {
					l = append(l, spec(k, m, ones, seed))
				}
			}
		}
	}
	return l
}

// expectedRows follows the document by another way than the program: with a list of the rows that are left.
func expectedRows(s api.Spec) [][]int {
	in := make([]map[int]bool, s.Spare)
	for i := range in {
		in[i] = map[int]bool{s.Data + i: true}
		if i > 0 {
			in[i][s.Data+i-1] = true
		}
	}
	x := int64(s.Seed)
	for piece := 0; piece < s.Data; piece++ {
		var left []int
		for i := 0; i < s.Spare; i++ {
			left = append(left, i)
		}
		for n := 0; n < s.Ones; n++ {
			x = (75*x + 74) % 65537
			d := int(x % int64(len(left)))
			in[left[d]][piece] = true
			left = append(left[:d:d], left[d+1:]...)
		}
	}
	rows := make([][]int, s.Spare)
	for i := range rows {
		for n := 0; n < s.Data+s.Spare; n++ {
			if in[i][n] {
				rows[i] = append(rows[i], n)
			}
		}
	}
	return rows
}

// isWord tells for each byte and row whether the sum is nought.
func isWord(s api.Spec, pieces []string) bool {
	for _, row := range expectedRows(s) {
		for k := 0; k < len(pieces[0]); k++ {
			var sum byte
			for _, n := range row {
				sum ^= pieces[n][k]
			}
			if sum != 0 {
				return false
			}
		}
	}
	return true
}

// someData makes k pieces of a size, of bytes that look mixed and are always the same.
func someData(k, size, salt int) []string {
	l := make([]string, k)
	x := salt
	for i := range l {
		b := make([]byte, size)
		for n := range b {
			x = (x*1103515245 + 12345) & 0x7fffffff
			b[n] = byte(x >> 16)
		}
		l[i] = string(b)
	}
	return l
}

func join(a, b []string) []string {
	l := append([]string(nil), a...)
	return append(l, b...)
}

func flip(pieces []string, i, k int, bit byte) []string {
	l := append([]string(nil), pieces...)
	b := []byte(l[i])
	b[k] ^= bit
	l[i] = string(b)
	return l
}

func TestRowsWorkedOutByHand(t *testing.T) {
	for _, c := range []struct {
		s    api.Spec
		want string
	}{
		{spec(2, 2, 1, 0), "[[0 1 2] [2 3]]"},
		{spec(1, 1, 1, 0), "[[0 1]]"},
		{spec(1, 1, 1, 65535), "[[0 1]]"},
		{spec(3, 1, 1, 9), "[[0 1 2 3]]"},
		// 74 below 3: 2; 5624: 2; 28652: 2
		{spec(3, 3, 1, 0), "[[3] [3 4] [0 1 2 4 5]]"},
		// 149 below 3: row 2; 11249 below 2: place 1 of rows 0 and 1; 57305 below 3: row 2; 38044 below 2: place 0
		{spec(2, 3, 2, 1), "[[1 2] [0 2 3] [0 1 3 4]]"},
		// 65461 below 4: row 1; 59911 below 3: place 1 of rows 0, 2, 3: row 2
		{spec(1, 4, 2, 65535), "[[1] [0 1 2] [0 2 3] [3 4]]"},
		{spec(2, 3, 3, 5), "[[0 1 2] [0 1 2 3] [0 1 3 4]]"},
	} {
		rows, e := Rows(c.s)
		if e != api.OK || fmt.Sprint(rows) != c.want {
			t.Errorf("P3: Rows(%v) = %v, %d, want %s", c.s, rows, e, c.want)
		}
	}
}

func TestRowsOfManySpecifications(t *testing.T) {
	for _, s := range someSpecs() {
		rows, e := Rows(s)
		if want := expectedRows(s); e != api.OK || !reflect.DeepEqual(rows, want) {
			t.Fatalf("P3: Rows(%v) = %v, %d, want %v", s, rows, e, want)
		}
	}
}

func TestRowsOfEverySeed(t *testing.T) {
	for seed := 0; seed <= api.MaxSeed; seed++ {
		s := spec(1+seed%5, 5, 1+seed%4, seed)
		rows, e := Rows(s)
		if want := expectedRows(s); e != api.OK || !reflect.DeepEqual(rows, want) {
			t.Fatalf("P3: Rows(%v) = %v, %d, want %v", s, rows, e, want)
		}
	}
}

func TestSpareWorkedOutByHand(t *testing.T) {
	long := strings.Repeat("\xa5", 16)
	for _, c := range []struct {
		s          api.Spec
		data, want []string
	}{
		{spec(2, 2, 1, 0), []string{"ab", "cd"}, []string{"\x02\x06", "\x02\x06"}},
		{spec(1, 1, 1, 3), []string{"\x00"}, []string{"\x00"}},
		{spec(1, 1, 1, 3), []string{long}, []string{long}},
		// rows 3; 3 4; 0 1 2 4 5: the pieces 3 and 4 are noughts in every word
		{spec(3, 3, 1, 0), []string{"\x01", "\x02", "\x84"}, []string{"\x00", "\x00", "\x87"}},
		{spec(2, 3, 2, 1), []string{"\x0f", "\x33"}, []string{"\x33", "\x3c", "\x00"}},
	} {
		spare, e := Spare(c.s, c.data)
		if e != api.OK || !reflect.DeepEqual(spare, c.want) {
			t.Errorf("P4: Spare(%v, %q) = %q, %d, want %q", c.s, c.data, spare, e, c.want)
		}
	}
}

func TestSpareMakesWords(t *testing.T) {
	for i, s := range someSpecs() {
		size := 1 + i%16
		data := someData(s.Data, size, i)
		spare, e := Spare(s, data)
		if e != api.OK || len(spare) != s.Spare {
			t.Fatalf("P4: Spare(%v, %q) = %q, %d", s, data, spare, e)
		}
		for _, piece := range spare {
			if len(piece) != size {
				t.Fatalf("P4: Spare(%v, %q) = %q: a size", s, data, spare)
			}
		}
		word := join(data, spare)
		if !isWord(s, word) {
			t.Fatalf("P4: Spare(%v, %q) = %q makes no word", s, data, spare)
		}
		if fits, e := Fits(s, word); !fits || e != api.OK {
			t.Fatalf("P5: Fits(%v, %q) = %v, %d", s, word, fits, e)
		}
	}
}

func TestFitsTellsEveryChangedBit(t *testing.T) {
	for i, s := range []api.Spec{spec(1, 1, 1, 0), spec(2, 2, 1, 0), spec(3, 3, 1, 0), spec(5, 4, 4, 65535), spec(20, 20, 1, 7), spec(20, 20, 20, 65535)} {
		for _, size := range []int{1, 16} {
			data := someData(s.Data, size, i)
			spare, _ := Spare(s, data)
			word := join(data, spare)
			for n := range word {
				for k := 0; k < size; k++ {
					changed := flip(word, n, k, 1<<((n+k)%8))
					if fits, e := Fits(s, changed); fits || e != api.OK {
						t.Fatalf("P5: Fits(%v, %q) = %v, %d", s, changed, fits, e)
					}
				}
			}
		}
	}
}

func TestFitsOfAllSmallWords(t *testing.T) {
	for _, s := range []api.Spec{spec(1, 1, 1, 0), spec(2, 2, 1, 0), spec(2, 2, 2, 5), spec(3, 3, 1, 0), spec(3, 3, 2, 8), spec(4, 3, 2, 65535)} {
		words := 0
		for bits := 0; bits < 1<<(s.Data+s.Spare); bits++ {
			pieces := make([]string, s.Data+s.Spare)
			for n := range pieces {
				pieces[n] = string([]byte{byte(bits >> n & 1)})
			}
			fits, e := Fits(s, pieces)
			if e != api.OK || fits != isWord(s, pieces) {
				t.Fatalf("P5: Fits(%v, %q) = %v, %d", s, pieces, fits, e)
			}
			if fits {
				words++
			}
		}
		if words != 1<<s.Data {
			t.Errorf("P5: %v has %d words of single bits, want one for each data", s, words)
		}
	}
}

// Two faults that would cancel if the bytes or the rows were added up together.
func TestFitsLooksAtEachByteAndRow(t *testing.T) {
	two := spec(2, 2, 1, 0)
	for _, pieces := range [][]string{
		{"\x01\x01", "\x00\x00", "\x00\x00", "\x00\x00"},
		{"\x01\x00", "\x00\x01", "\x00\x00", "\x00\x00"},
		{"\x00\x00", "\x00\x00", "\x01\x00", "\x00\x00"},
		{"\x00\x00", "\x00\x00", "\x00\x00", "\x00\x01"},
		{"\x01\x00", "\x00\x00", "\x01\x00", "\x00\x00"},
		{"\x01\x00", "\x00\x00", "\x00\x00", "\x01\x00"},
		{"ab", "cd", "\x06\x02", "\x06\x02"},
	} {
		if fits, e := Fits(two, pieces); fits || e != api.OK {
			t.Errorf("P5: Fits(%v, %q) = %v, %d", two, pieces, fits, e)
		}
	}
}

func TestWrongSpecificationComesFirst(t *testing.T) {
	lists := [][]string{nil, {}, {""}, {"ab", "cd"}, {"ab", "cd", "\x02\x06", "\x02\x06"}, {"a", "bc"}, {strings.Repeat("a", 17), ""}}
	for _, s := range wrongSpecs {
		if rows, e := Rows(s); rows != nil || e != api.ErrSpec {
			t.Errorf("P1, P3: Rows(%v) = %v, %d", s, rows, e)
		}
		for _, l := range lists {
			if spare, e := Spare(s, l); spare != nil || e != api.ErrSpec {
				t.Errorf("P1, P4: Spare(%v, %q) = %q, %d", s, l, spare, e)
			}
			if fits, e := Fits(s, l); fits || e != api.ErrSpec {
				t.Errorf("P1, P5: Fits(%v, %q) = %v, %d", s, l, fits, e)
			}
		}
	}
}

// wrongShapes makes lists that are not count pieces of one size from 1 to 16.
func wrongShapes(count int) [][]string {
	l := [][]string{nil, {}, make([]string, count), someData(count-1, 2, 1), someData(count+1, 2, 1), someData(count, 17, 1), someData(count, 1<<16, 1), make([]string, 100000)}
	for n := 0; n < count; n++ {
		for _, piece := range []string{"", "a", "abc", strings.Repeat("a", 17), strings.Repeat("a", 1<<20)} {
			pieces := someData(count, 2, n)
			pieces[n] = piece
			if count > 1 {
				l = append(l, pieces)
			}
		}
	}
	return l
}

func TestWrongShapes(t *testing.T) {
	for _, s := range []api.Spec{spec(2, 2, 1, 0), spec(1, 1, 1, 0), spec(20, 20, 3, 65535), spec(3, 5, 5, 12)} {
		for i, l := range wrongShapes(s.Data) {
			if spare, e := Spare(s, l); spare != nil || e != api.ErrShape {
				t.Errorf("P1, P4: Spare(%v, wrong shape %d) = %q, %d", s, i, spare, e)
			}
		}
		for i, l := range wrongShapes(s.Data + s.Spare) {
			if fits, e := Fits(s, l); fits || e != api.ErrShape {
				t.Errorf("P1, P5: Fits(%v, wrong shape %d) = %v, %d", s, i, fits, e)
			}
		}
		whole := someData(s.Data+s.Spare, 2, 1)
		if spare, e := Spare(s, whole); spare != nil || e != api.ErrShape {
			t.Errorf("P4: Spare(%v, pieces of a whole word) = %q, %d", s, spare, e)
		}
		if fits, e := Fits(s, whole[:s.Data]); fits || e != api.ErrShape {
			t.Errorf("P5: Fits(%v, data alone) = %v, %d", s, fits, e)
		}
	}
	// All noughts would be a word, were the size one that may be.
	for _, size := range []int{0, 17} {
		noughts := strings.Repeat("\x00", size)
		if fits, e := Fits(spec(1, 1, 1, 0), []string{noughts, noughts}); fits || e != api.ErrShape {
			t.Errorf("P5: Fits of noughts of size %d = %v, %d", size, fits, e)
		}
	}
}

// withRoom lays pieces into a list with spare room behind them, each place of which says which it is.
func withRoom(pieces []string) []string {
	l := append([]string(nil), pieces...)
	for len(l) < len(pieces)+64 {
		l = append(l, fmt.Sprint("room ", len(l)))
	}
	return l
}

func TestHandedInListsStayAsTheyAre(t *testing.T) {
	s := spec(3, 4, 2, 99)
	data := someData(3, 4, 5)
	spare, _ := Spare(s, data)
	word := join(data, spare)
	for n := 0; n <= len(word); n++ {
		roomy := withRoom(word[:n])
		before := withRoom(word[:n])
		for _, s := range []api.Spec{s, spec(0, 4, 2, 99), spec(n, 20, 2, 99), spec(1, n-1, 1, 99)} {
			Spare(s, roomy[:n])
			Fits(s, roomy[:n])
			if !reflect.DeepEqual(roomy, before) {
				t.Fatalf("P2: %v with %d pieces handed in: the list became %q, it was %q", s, n, roomy, before)
			}
		}
	}
}

func TestRowsAreTheCallers(t *testing.T) {
	for _, s := range []api.Spec{spec(2, 2, 1, 0), spec(20, 20, 20, 65535), spec(20, 20, 3, 1), spec(1, 20, 1, 4)} {
		want := expectedRows(s)
		mine, _ := Rows(s)
		other, _ := Rows(s)
		for i := range mine {
			room := mine[i][:cap(mine[i])]
			for k := range room {
				room[k] = -1 - i
			}
			for n := i + 1; n < len(mine); n++ {
				if !reflect.DeepEqual(mine[n], want[n]) {
					t.Fatalf("P2: writing into row %d of %v changed row %d", i, s, n)
				}
			}
		}
		for i := range mine {
			for k := range mine[i] {
				if mine[i][k] != -1-i {
					t.Fatalf("P2: writing into the rows of %v changed row %d", s, i)
				}
			}
		}
		lists := mine[:cap(mine)]
		for i := range lists {
			lists[i] = []int{-7}
		}
		if !reflect.DeepEqual(other, want) {
			t.Errorf("P2: writing into one answer of Rows(%v) changed another", s)
		}
		if again, e := Rows(s); e != api.OK || !reflect.DeepEqual(again, want) {
			t.Errorf("P2: after writing into its rows, Rows(%v) = %v, %d", s, again, e)
		}
		for i := range lists {
			if !reflect.DeepEqual(lists[i], []int{-7}) {
				t.Errorf("P2: a later call of Rows(%v) wrote into an earlier answer", s)
			}
		}
	}
}

func TestSparesAreTheCallers(t *testing.T) {
	for _, s := range []api.Spec{spec(2, 2, 1, 0), spec(1, 1, 1, 0), spec(20, 20, 3, 1)} {
		data := someData(s.Data, 3, 8)
		before := append([]string(nil), data...)
		mine, _ := Spare(s, data)
		want := append([]string(nil), mine...)
		other, _ := Spare(s, data)
		room := mine[:cap(mine)]
		for i := range room {
			room[i] = "mine"
		}
		if !reflect.DeepEqual(data, before) {
			t.Errorf("P2: writing into an answer of Spare(%v) changed the data", s)
		}
		if !reflect.DeepEqual(other, want) {
			t.Errorf("P2: writing into one answer of Spare(%v) changed another", s)
		}
		if again, e := Spare(s, data); e != api.OK || !reflect.DeepEqual(again, want) {
			t.Errorf("P2: Spare(%v) a third time = %q, %d, want %q", s, again, e, want)
		}
		for i := range room {
			if room[i] != "mine" {
				t.Errorf("P2: a later call of Spare(%v) wrote into an earlier answer", s)
			}
		}
		for i := range data {
			data[i] = "---"
		}
		if !reflect.DeepEqual(other, want) {
			t.Errorf("P2: writing into the data changed an answer of Spare(%v)", s)
		}
	}
}

func TestAnswersHangOnTheArgumentsAlone(t *testing.T) {
	a, b := spec(4, 5, 2, 10), spec(7, 3, 1, 11)
	dataA, dataB := someData(4, 2, 1), someData(7, 16, 2)
	spareA, _ := Spare(a, dataA)
	spareB, _ := Spare(b, dataB)
	for n := 0; n < 3; n++ {
		Rows(spec(0, 0, 0, 0))
		Spare(a, nil)
		Fits(b, []string{""})
		if rows, e := Rows(a); e != api.OK || !reflect.DeepEqual(rows, expectedRows(a)) {
			t.Errorf("P2: Rows(%v), time %d = %v, %d", a, n, rows, e)
		}
		if l, e := Spare(b, dataB); e != api.OK || !reflect.DeepEqual(l, spareB) {
			t.Errorf("P2: Spare(%v), time %d = %q, %d", b, n, l, e)
		}
		if l, e := Spare(a, dataA); e != api.OK || !reflect.DeepEqual(l, spareA) {
			t.Errorf("P2: Spare(%v), time %d = %q, %d", a, n, l, e)
		}
		if fits, e := Fits(a, join(dataA, spareA)); !fits || e != api.OK {
			t.Errorf("P2: Fits(%v), time %d = %v, %d", a, n, fits, e)
		}
	}
}
