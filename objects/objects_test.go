package objects

import (
	"reflect"
	"strings"
	"testing"

	"refill/api"
	"refill/box"
	"refill/packet"
)

func TestDataOf(t *testing.T) {
	for _, c := range []struct {
		count, size int
		object      string
		want        []string
	}{
		{1, 2, "", []string{"\x00\x00"}},
		{2, 1, "", []string{"\x00", "\x00"}},
		{2, 2, "A", []string{"\x01\x00", "A\x00"}},
		{2, 2, "ab", []string{"\x02\x00", "ab"}},
		{3, 1, "a", []string{"\x01", "\x00", "a"}},
		{2, 3, "abc", []string{"\x03\x00a", "bc\x00"}},
	} {
		if data := dataOf(c.count, c.size, c.object); !reflect.DeepEqual(data, c.want) {
			t.Errorf("dataOf(%d, %d, %q) = %x, want %x", c.count, c.size, c.object, data, c.want)
		}
	}
}

func TestReadGivesWhatDataOfWasGiven(t *testing.T) {
	for length := 0; length <= 318; length++ {
		object := strings.Repeat("\xab\x00\xcd", 106)[:length]
		data := strings.Join(dataOf(20, 16, object), "")
		if got, e := Read(data); len(data) != 320 || got != object || e != api.OK {
			t.Errorf("Read of %d bytes of data = %x, %d, want %x", len(data), got, e, object)
		}
	}
}

func TestReadOfNoObject(t *testing.T) {
	for _, data := range []string{"", "\x00", "\x01\x00", "\x00\x01", "\x00\x00\x01", "\x02\x00a", "\x01\x00ab", "\x01\x00\x00\x00b", "\xff\xffab", "\x00\x01" + strings.Repeat("a", 255), "\xff\x00" + strings.Repeat("a", 256)} {
		if object, e := Read(data); object != "" || e != api.ErrForm {
			t.Errorf("Read(%x) = %x, %d", data, object, e)
		}
	}
}

// What was refused leaves nothing behind, not even what a first packet would have settled.
func TestWithAnErrorNothingIsKept(t *testing.T) {
	s := api.Spec{Data: 3, Spare: 3, Ones: 1, Seed: 0}
	contrary := packet.Text(packet.Packet{Spec: s, Size: 1, Number: 3, Piece: "x"})
	fine := packet.Text(packet.Packet{Spec: s, Size: 1, Number: 0, Piece: "x"})
	other := packet.Text(packet.Packet{Spec: s, Size: 2, Number: 0, Piece: "xy"})
	var c Catcher
	for _, text := range []string{"", "R", contrary, contrary[1:], contrary + "\x00"} {
		if e := c.Hear(text); e == api.OK || c != (Catcher{}) {
			t.Errorf("Hear(%x) = %d, the catcher is %v", text, e, c)
		}
	}
	if e := c.Hear(fine); e != api.OK {
		t.Fatalf("Hear(%x) = %d", fine, e)
	}
	before := c
	for _, text := range []string{"", "R", contrary, other, fine[1:]} {
		if e := c.Hear(text); e == api.OK || c != before {
			t.Errorf("Hear(%x) = %d, the catcher is %v, it was %v", text, e, c, before)
		}
	}
	if e := c.Hear(fine); e != api.OK || c != before {
		t.Errorf("heard again: %d, the catcher is %v, it was %v", e, c, before)
	}
}

func TestACatcherThatHasTakenNothing(t *testing.T) {
	var c Catcher
	if object, e := c.Object(); object != "" || e != api.ErrOpen || c.Wants() != -1 || c.held != (box.Box{}) {
		t.Errorf("Object = %q, %d; Wants = %d; held %v", object, e, c.Wants(), c.held)
	}
}

func TestRoomIsWhatSendTakes(t *testing.T) {
	s := api.Spec{Data: 2, Spare: 2, Ones: 1, Seed: 0}
	for _, c := range []struct{ size, room int }{{1, 0}, {2, 2}, {3, 4}, {16, 30}} {
		room := Room(2, c.size)
		if room != c.room {
			t.Errorf("Room(2, %d) = %d, want %d", c.size, room, c.room)
		}
		if _, e := Send(s, c.size, strings.Repeat("a", c.room)); e != api.OK {
			t.Errorf("Send of %d bytes: %d", c.room, e)
		}
		if _, e := Send(s, c.size, strings.Repeat("a", c.room+1)); e != api.ErrShape {
			t.Errorf("Send of %d bytes: %d", c.room+1, e)
		}
	}
	if room := Room(1, 1); room >= 0 {
		t.Errorf("Room(1, 1) = %d, but not even an empty object has its length in one byte", room)
	}
}
