package packet

import (
	"strings"
	"testing"

	"refill/api"
)

func TestTextsWorkedOutByHand(t *testing.T) {
	for _, c := range []struct {
		p    Packet
		text string
	}{
		{Packet{api.Spec{Data: 2, Spare: 2, Ones: 1, Seed: 0}, 2, 0, "\x01\x00"}, "\x52\x02\x02\x01\x00\x00\x02\x00\x01\x00\xa6"},
		{Packet{api.Spec{Data: 1, Spare: 1, Ones: 1, Seed: 0}, 1, 1, "\xa9"}, "\x52\x01\x01\x01\x00\x00\x01\x01\xa9\x00"},
		{Packet{api.Spec{Data: 20, Spare: 20, Ones: 20, Seed: 65535}, 16, 39, strings.Repeat("\x10", 16)}, "\x52\x14\x14\x14\xff\xff\x10\x27" + strings.Repeat("\x10", 16) + "\x3d"},
		{Packet{api.Spec{Data: 3, Spare: 4, Ones: 2, Seed: 0x1234}, 1, 6, "\x80"}, "\x52\x03\x04\x02\x34\x12\x01\x06\x80\xd8"},
	} {
		if text := Text(c.p); text != c.text {
			t.Errorf("Text(%v) = %x, want %x", c.p, text, c.text)
		}
		if p, ok := Read(c.text); !ok || p != c.p {
			t.Errorf("Read(%x) = %v, %v, want %v", c.text, p, ok, c.p)
		}
	}
}

func TestWhatIsReadIsWhatWasWritten(t *testing.T) {
	for _, s := range []api.Spec{{Data: 1, Spare: 1, Ones: 1, Seed: 0}, {Data: 1, Spare: 20, Ones: 20, Seed: 255}, {Data: 20, Spare: 1, Ones: 1, Seed: 256}, {Data: 20, Spare: 20, Ones: 1, Seed: 65535}} {
		for size := 1; size <= 16; size++ {
			for number := 0; number < s.Data+s.Spare; number++ {
				for b := 0; b < 256; b++ {
					p := Packet{s, size, number, strings.Repeat("\x9c", size-1) + string([]byte{byte(b)})}
					text := Text(p)
					got, ok := Read(text)
					if !ok || got != p {
						t.Fatalf("Read(%x) = %v, %v, want %v", text, got, ok, p)
					}
				}
			}
		}
	}
}

func TestNoPacketGivesNothing(t *testing.T) {
	good := Text(Packet{api.Spec{Data: 2, Spare: 2, Ones: 1, Seed: 0}, 2, 0, "\x01\x00"})
	for n := 0; n < len(good); n++ {
		if p, ok := Read(good[:n]); ok || p != (Packet{}) {
			t.Errorf("Read(%x) = %v, %v", good[:n], p, ok)
		}
		wrong := good[:n] + string([]byte{good[n] + 1}) + good[n+1:]
		if p, ok := Read(wrong); ok || p != (Packet{}) {
			t.Errorf("Read(%x) = %v, %v", wrong, p, ok)
		}
	}
	for _, text := range []string{good + "\x00", good + good, strings.Repeat("R", 1<<20)} {
		if p, ok := Read(text); ok || p != (Packet{}) {
			t.Errorf("Read(%.40x) = %v, %v", text, p, ok)
		}
	}
}
