package large

import (
	"fmt"
	"strings"
	"testing"

	"refill/api"
	"refill/packet"
)

var two = api.Spec{Data: 2, Spare: 2, Ones: 1, Seed: 0}

func TestCut(t *testing.T) {
	for _, c := range []struct {
		object string
		room   int
		want   []string
	}{
		{"", 1, []string{""}},
		{"", 318, []string{""}},
		{"a", 1, []string{"a"}},
		{"ab", 1, []string{"a", "b"}},
		{"a", 2, []string{"a"}},
		{"ab", 2, []string{"ab"}},
		{"abc", 2, []string{"ab", "c"}},
		{"abcd", 2, []string{"ab", "cd"}},
		{"abcde", 2, []string{"ab", "cd", "e"}},
		{"\x00\x00\x00", 2, []string{"\x00\x00", "\x00"}},
		// It ends, also where nothing is cut.
		{"abc", 0, []string{"abc"}},
		{"abc", -1, []string{"abc"}},
	} {
		if parts := cut(c.object, c.room); !same(parts, c.want) {
			t.Errorf("cut(%q, %d) = %q, want %q", c.object, c.room, parts, c.want)
		}
	}
}

func TestSame(t *testing.T) {
	for _, c := range []struct {
		a, b []string
		want bool
	}{
		{nil, nil, true}, {nil, []string{}, true}, {nil, []string{""}, false}, {[]string{""}, nil, false},
		{[]string{"a"}, []string{"a"}, true}, {[]string{"a", "b"}, []string{"a", "b"}, true},
		{[]string{"a", "b"}, []string{"a", "c"}, false}, {[]string{"a", "b"}, []string{"c", "b"}, false}, {[]string{"a", "b"}, []string{"ab", ""}, false}, {[]string{"a", "b"}, []string{"a"}, false},
	} {
		if got := same(c.a, c.b); got != c.want {
			t.Errorf("same(%q, %q) = %v", c.a, c.b, got)
		}
	}
}

func TestShuffled(t *testing.T) {
	for _, c := range []struct {
		n, order int
		want     string
	}{
		{0, 0, "[]"},
		{1, 65535, "[0]"},
		// 74 below 2: 0
		{2, 0, "[1 0]"},
		// 149 below 2: 1
		{2, 1, "[0 1]"},
		// 65461 below 4: 1; 59911 below 3: 1; 36883 below 2: 1
		{4, 65535, "[0 2 3 1]"},
		// 74 below 12: 2; 5624 below 11: 3; 28652 below 10: 2; 51790 below 9: 4; 17641 below 8: 1; 12409 below 7: 5; 13231 below 6: 1; 9344 below 5: 4; 45504 below 4: 0; 4950 below 3: 0; 43639 below 2: 1
		{12, 0, "[9 6 10 0 8 7 5 1 4 11 3 2]"},
	} {
		var plain []string
		for i := 0; i < c.n; i++ {
			plain = append(plain, fmt.Sprint(i))
		}
		before := fmt.Sprint(plain)
		if got := fmt.Sprint(shuffled(plain, c.order)); got != c.want {
			t.Errorf("shuffled(%d sheets, %d) = %s, want %s", c.n, c.order, got, c.want)
		}
		if after := fmt.Sprint(plain); after != before {
			t.Errorf("shuffled changed the sheets that it was given: %s, they were %s", after, before)
		}
	}
}

func TestWhatIsReadIsWhatWasWritten(t *testing.T) {
	p := packet.Packet{Spec: two, Size: 2, Number: 3, Piece: "\x02\x06"}
	inner := packet.Text(p)
	for parts := 0; parts < 256; parts++ {
		for part := 0; part < 256; part++ {
			text := textOf(part, parts, inner)
			want := sheet{part: part, parts: parts, packet: p}
			may := parts >= 1 && parts <= 20 && part < parts
			if !may {
				want = sheet{}
			}
			if s, ok := read(text); s != want || ok != may || len(text) != 3+len(inner) {
				t.Fatalf("read(%x) = %v, %v, want %v, %v", text, s, ok, want, may)
			}
		}
	}
}

func TestNoSheetGivesNothing(t *testing.T) {
	good := textOf(0, 3, packet.Text(packet.Packet{Spec: two, Size: 2, Number: 0, Piece: "ab"}))
	texts := []string{"", "S", good + "\x00", good + good, good[3:], "S" + good, "R" + good[1:], strings.Repeat("S", 1<<20)}
	for n := range good {
		texts = append(texts, good[:n])
		if n != 1 && n != 2 {
			texts = append(texts, good[:n]+string([]byte{good[n] + 1})+good[n+1:])
		}
	}
	for _, text := range texts {
		if s, ok := read(text); ok || s != (sheet{}) {
			t.Errorf("read(%.40x) = %v, %v", text, s, ok)
		}
	}
}

func TestJoined(t *testing.T) {
	a, ab, cd, none := "\x01\x00a\x00", "\x02\x00ab", "\x02\x00cd", "\x00\x00\x00\x00"
	for _, c := range []struct {
		data []string
		room int
		want string
		e    api.Errno
	}{
		{[]string{none}, 2, "", api.OK},
		{[]string{a}, 2, "a", api.OK},
		{[]string{ab}, 2, "ab", api.OK},
		{[]string{ab, a}, 2, "aba", api.OK},
		{[]string{ab, cd}, 2, "abcd", api.OK},
		{[]string{ab, none}, 2, "", api.ErrForm},
		{[]string{none, none}, 2, "", api.ErrForm},
		{[]string{a, cd}, 2, "", api.ErrForm},
		{[]string{a, a}, 2, "", api.ErrForm},
		{[]string{none, ab}, 2, "", api.ErrForm},
		{[]string{ab, a, cd}, 2, "", api.ErrForm},
		{[]string{"\x03\x00ab"}, 2, "", api.ErrForm},
		{[]string{ab, "\x01\x00ab"}, 2, "", api.ErrForm},
		{[]string{"\x00\x00"}, 0, "", api.ErrForm},
		{[]string{"\x00"}, -1, "", api.ErrForm},
	} {
		if got, e := joined(c.data, c.room); got != c.want || e != c.e {
			t.Errorf("joined(%x, %d) = %x, %d, want %x, %d", c.data, c.room, got, e, c.want, c.e)
		}
	}
}

// What was refused leaves nothing behind, not even what a first sheet would have settled.
func TestWithAnErrorNothingIsKept(t *testing.T) {
	s := api.Spec{Data: 3, Spare: 3, Ones: 1, Seed: 0}
	inner := func(size, number int, piece string) string {
		return packet.Text(packet.Packet{Spec: s, Size: size, Number: number, Piece: piece})
	}
	contrary := textOf(1, 2, inner(1, 3, "x"))
	fine := textOf(1, 2, inner(1, 0, "x"))
	var x Inbox
	for _, text := range []string{"", "S", contrary, contrary[1:], contrary + "\x00", fine[3:]} {
		if e := x.Take(text); e == api.OK || x != (Inbox{}) {
			t.Errorf("Take(%x) = %d, and the inbox has changed", text, e)
		}
	}
	if e := x.Take(fine); e != api.OK {
		t.Fatalf("Take(%x) = %d", fine, e)
	}
	before := x
	for _, text := range []string{"", "S", contrary, fine[1:], textOf(1, 2, inner(2, 0, "xy")), textOf(1, 3, inner(1, 0, "x")), textOf(1, 2, inner(1, 0, "y"))} {
		if e := x.Take(text); e == api.OK || x != before {
			t.Errorf("Take(%x) = %d, and the inbox has changed", text, e)
		}
	}
	if e := x.Take(fine); e != api.OK || x != before {
		t.Errorf("taken again: %d, or the inbox has changed", e)
	}
	x.Whole()
	x.Lacks()
	if x != before {
		t.Error("asking changed the inbox")
	}
}
