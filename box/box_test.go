package box

import (
	"strings"
	"testing"

	"refill/api"
)

func TestDataOf(t *testing.T) {
	for _, c := range []struct {
		data int
		rows [][]int
		want []int
	}{
		{1, [][]int{{0, 1}}, []int{1, 1}},
		{2, [][]int{{0, 1, 2}, {2, 3}}, []int{1, 2, 3, 3}},
		{3, [][]int{{3}, {3, 4}, {0, 1, 2, 4, 5}}, []int{1, 2, 4, 0, 0, 7}},
		{2, [][]int{{1, 2}, {0, 2, 3}, {0, 1, 3, 4}}, []int{1, 2, 2, 3, 0}},
	} {
		of := dataOf(c.data, c.rows)
		for i := range of {
			want := 0
			if i < len(c.want) {
				want = c.want[i]
			}
			if of[i] != want {
				t.Errorf("dataOf(%d, %v) at %d = %b, want %b", c.data, c.rows, i, of[i], want)
			}
		}
	}
}

func TestHighest(t *testing.T) {
	for of, want := range []int{0, 0, 1, 1, 2, 2, 2, 2, 3} {
		if got := highest(of); got != want {
			t.Errorf("highest(%b) = %d, want %d", of, got, want)
		}
	}
	if got := highest(1<<19 | 1); got != 19 {
		t.Errorf("highest of 0 and 19 = %d", got)
	}
}

// What the box keeps: never more sums than data, each under its highest data, none with what was put in a second time.
func TestWhatIsKept(t *testing.T) {
	s := api.Spec{Data: 20, Spare: 20, Ones: 7, Seed: 4711}
	b, e := New(s, 16)
	if e != api.OK {
		t.Fatal(e)
	}
	for n := 0; n < 3; n++ {
		for i := 39; i >= 0; i-- {
			if e := b.Put(i, strings.Repeat("\x00", 16)); e != api.OK {
				t.Fatalf("Put(%d) = %d", i, e)
			}
			for j := range b.known {
				known := b.known[j]
				if known.of == 0 {
					if known.piece != "" {
						t.Fatalf("a piece at %d, where nothing is known: %q", j, known.piece)
					}
					continue
				}
				if highest(known.of) != j || len(known.piece) != 16 {
					t.Fatalf("at %d the sum %b, of %d bytes", j, known.of, len(known.piece))
				}
			}
		}
	}
	if need := b.Need(); need != 0 {
		t.Errorf("Need = %d", need)
	}
}

// A box is a plain value: one that was copied goes its own way.
func TestACopyIsABoxOfItsOwn(t *testing.T) {
	b, _ := New(api.Spec{Data: 2, Spare: 2, Ones: 1, Seed: 0}, 1)
	copied := b
	if e := copied.Put(0, "a"); e != api.OK {
		t.Fatal(e)
	}
	if piece, e := b.Get(0); piece != "" || e != api.ErrOpen || b.Need() != 2 {
		t.Errorf("Get(0) = %q, %d; Need = %d", piece, e, b.Need())
	}
	if piece, e := copied.Get(0); piece != "a" || e != api.OK || copied.Need() != 1 {
		t.Errorf("of the copy: Get(0) = %q, %d; Need = %d", piece, e, copied.Need())
	}
}

func TestNoBoxWithAnError(t *testing.T) {
	for _, c := range []struct {
		s    api.Spec
		size int
		want api.Errno
	}{
		{api.Spec{}, 1, api.ErrSpec},
		{api.Spec{}, 0, api.ErrSpec},
		{api.Spec{Data: 1, Spare: 1, Ones: 1}, 0, api.ErrArg},
		{api.Spec{Data: 1, Spare: 1, Ones: 1}, 17, api.ErrArg},
	} {
		if b, e := New(c.s, c.size); b != (Box{}) || e != c.want {
			t.Errorf("New(%v, %d) = %v, %d, want %d", c.s, c.size, b, e, c.want)
		}
	}
}

func TestData(t *testing.T) {
	b, _ := New(api.Spec{Data: 2, Spare: 2, Ones: 1, Seed: 0}, 2)
	for _, c := range []struct {
		i     int
		piece string
		data  string
		want  api.Errno
	}{
		{1, "cd", "", api.ErrOpen},
		{1, "cd", "", api.ErrOpen},
		{3, "\x02\x06", "abcd", api.OK},
		{0, "ab", "abcd", api.OK},
	} {
		if e := b.Put(c.i, c.piece); e != api.OK {
			t.Fatalf("Put(%d, %x) = %d", c.i, c.piece, e)
		}
		if data, e := b.Data(); data != c.data || e != c.want {
			t.Errorf("after Put(%d, %x) Data = %x, %d, want %x, %d", c.i, c.piece, data, e, c.data, c.want)
		}
	}
	b, _ = New(api.Spec{Data: 2, Spare: 2, Ones: 1, Seed: 0}, 2)
	if data, e := b.Data(); data != "" || e != api.ErrOpen {
		t.Errorf("of an empty box Data = %x, %d", data, e)
	}
	b.Put(0, "ab")
	if data, e := b.Data(); data != "" || e != api.ErrOpen {
		t.Errorf("of a box with piece 0 alone Data = %x, %d", data, e)
	}
}
