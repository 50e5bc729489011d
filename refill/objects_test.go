package refill

import (
	"fmt"
	"math"
	"math/rand"
	"reflect"
	"strings"
	"testing"

	"refill/api"
)

// seal adds the byte by which the sum of all bytes becomes a multiple of 256.
func seal(text string) string {
	sum := 0
	for i := 0; i < len(text); i++ {
		sum += int(text[i])
	}
	return text + string([]byte{byte((256 - sum%256) % 256)})
}

// packetOf lays a packet out byte by byte, whether it may be or not.
func packetOf(s api.Spec, size, number int, piece string) string {
	head := []byte{0x52, byte(s.Data), byte(s.Spare), byte(s.Ones), byte(s.Seed & 255), byte(s.Seed >> 8), byte(size), byte(number)}
	return seal(string(head) + piece)
}

// dataText is an object's data, not cut yet.
func dataText(s api.Spec, size int, object string) string {
	text := string([]byte{byte(len(object) & 255), byte(len(object) >> 8)}) + object
	return text + strings.Repeat("\x00", s.Data*size-len(text))
}

// cut makes pieces of a size.
func cut(text string, size int) []string {
	var l []string
	for ; text != ""; text = text[size:] {
		l = append(l, text[:size])
	}
	return l
}

// fullWord finds the word of some data by the rows that the document asks for.
func fullWord(s api.Spec, data []string) []string {
	in := map[int]string{}
	for i, piece := range data {
		in[i] = piece
	}
	for i, row := range expectedRows(s) {
		sum := make([]byte, len(data[0]))
		for _, n := range row {
			for k := 0; k < len(in[n]); k++ {
				sum[k] ^= in[n][k]
			}
		}
		in[s.Data+i] = string(sum)
	}
	l := make([]string, s.Data+s.Spare)
	for i := range l {
		l[i] = in[i]
	}
	return l
}

// packetsOf makes the packets of a word.
func packetsOf(s api.Spec, word []string) []string {
	var l []string
	for i, piece := range word {
		l = append(l, packetOf(s, len(piece), i, piece))
	}
	return l
}

// asObject tries the objects of every length: the one whose data these are, and whether there is one.
func asObject(s api.Spec, size int, data string) (string, bool) {
	for n := 0; n <= s.Data*size-2; n++ {
		if dataText(s, size, data[2:2+n]) == data {
			return data[2 : 2+n], true
		}
	}
	return "", false
}

// someText makes bytes that look mixed.
func someText(length, salt int) string {
	return someData(1, length, salt)[0]
}

func send(t *testing.T, s api.Spec, size int, object string) []string {
	t.Helper()
	l, e := Send(s, size, object)
	if e != api.OK || len(l) != s.Data+s.Spare {
		t.Fatalf("P10: Send(%v, %d, %q) = %q, %d", s, size, object, l, e)
	}
	return l
}

func hear(t *testing.T, c *Catcher, packet string, want api.Errno) {
	t.Helper()
	if e := c.Hear(packet); e != want {
		t.Fatalf("P11: Hear(%.80x) = %d, want %d", packet, e, want)
	}
}

// say tells all that a catcher answers. It is asked twice, as asking changes nothing.
func say(c *Catcher) string {
	var said [2]string
	for n := range said {
		object, e := c.Object()
		said[n] = fmt.Sprintf("%x %d, wants %d", object, e, c.Wants())
	}
	if said[0] != said[1] {
		return "first " + said[0] + ", then " + said[1]
	}
	return said[0]
}

const saidAtFirst = " 5, wants -1"

// shouldSay finds what a catcher should say that has taken these pieces, by way of the equations between the missing ones.
func shouldSay(s api.Spec, size int, in map[int]string) string {
	if len(in) == 0 {
		return saidAtFirst
	}
	text, _ := unknowns(s, size, in)
	fields := strings.Fields(text)
	wants := fields[len(fields)-1]
	data := ""
	for _, piece := range fields[:s.Data] {
		if piece == "-" {
			return fmt.Sprintf(" %d, wants %s", api.ErrOpen, wants)
		}
		bytes := make([]byte, size)
		fmt.Sscanf(piece, "%x", &bytes)
		data += string(bytes)
	}
	object, is := asObject(s, size, data)
	if !is {
		return fmt.Sprintf(" %d, wants %s", api.ErrForm, wants)
	}
	return fmt.Sprintf("%x 0, wants %s", object, wants)
}

func TestSendWorkedOutByHand(t *testing.T) {
	for _, c := range []struct {
		s      api.Spec
		size   int
		object string
		want   []string
	}{
		{spec(2, 2, 1, 0), 2, "A", []string{
			"\x52\x02\x02\x01\x00\x00\x02\x00\x01\x00\xa6",
			"\x52\x02\x02\x01\x00\x00\x02\x01\x41\x00\x65",
			"\x52\x02\x02\x01\x00\x00\x02\x02\x40\x00\x65",
			"\x52\x02\x02\x01\x00\x00\x02\x03\x40\x00\x64",
		}},
		{spec(2, 2, 1, 0), 2, "", []string{
			"\x52\x02\x02\x01\x00\x00\x02\x00\x00\x00\xa7",
			"\x52\x02\x02\x01\x00\x00\x02\x01\x00\x00\xa6",
			"\x52\x02\x02\x01\x00\x00\x02\x02\x00\x00\xa5",
			"\x52\x02\x02\x01\x00\x00\x02\x03\x00\x00\xa4",
		}},
		// The two bytes of the length in two pieces; the seed's low byte is 01, its high one fe.
		{spec(3, 1, 1, 0xfe01), 1, "\xff", []string{
			"\x52\x03\x01\x01\x01\xfe\x01\x00\x01\xa8",
			"\x52\x03\x01\x01\x01\xfe\x01\x01\x00\xa8",
			"\x52\x03\x01\x01\x01\xfe\x01\x02\xff\xa8",
			"\x52\x03\x01\x01\x01\xfe\x01\x03\xfe\xa8",
		}},
		// A sum that is a multiple of 256 already.
		{spec(1, 1, 1, 0), 3, "\xa7", []string{
			"\x52\x01\x01\x01\x00\x00\x03\x00\x01\x00\xa7\x00",
			"\x52\x01\x01\x01\x00\x00\x03\x01\x01\x00\xa7\xff",
		}},
		// The pieces 3 and 4 are noughts in every word.
		{spec(3, 3, 1, 0), 1, "\x05", []string{
			"\x52\x03\x03\x01\x00\x00\x01\x00\x01\xa5",
			"\x52\x03\x03\x01\x00\x00\x01\x01\x00\xa5",
			"\x52\x03\x03\x01\x00\x00\x01\x02\x05\x9f",
			"\x52\x03\x03\x01\x00\x00\x01\x03\x00\xa3",
			"\x52\x03\x03\x01\x00\x00\x01\x04\x00\xa2",
			"\x52\x03\x03\x01\x00\x00\x01\x05\x04\x9d",
		}},
	} {
		if l, e := Send(c.s, c.size, c.object); e != api.OK || !reflect.DeepEqual(l, c.want) {
			t.Errorf("P10: Send(%v, %d, %q) = %x, %d, want %x", c.s, c.size, c.object, l, e, c.want)
		}
	}
}

// The shortest objects, the longest and some between, for the least and the greatest of each number.
func TestSendAgainstTheDocument(t *testing.T) {
	for n, s := range someSpecs() {
		size := 1 + n%16
		longest := s.Data*size - 2
		for _, length := range []int{0, 1, longest / 2, longest - 1, longest} {
			if length < 0 || length > longest {
				continue
			}
			object := someText(length, n)
			want := packetsOf(s, fullWord(s, cut(dataText(s, size, object), size)))
			if l, e := Send(s, size, object); e != api.OK || !reflect.DeepEqual(l, want) {
				t.Fatalf("P10: Send(%v, %d, %x) = %x, %d, want %x", s, size, object, l, e, want)
			}
		}
	}
}

func TestSendOfEveryLength(t *testing.T) {
	for _, s := range []api.Spec{spec(1, 1, 1, 0), spec(2, 3, 2, 65535), spec(20, 1, 1, 7), spec(20, 20, 20, 65535)} {
		for _, size := range []int{1, 2, 3, 15, 16} {
			longest := s.Data*size - 2
			for length := 0; length <= longest+3; length++ {
				object := someText(length, length)
				l, e := Send(s, size, object)
				if length > longest {
					if l != nil || e != api.ErrShape {
						t.Fatalf("P10: Send(%v, %d, %d bytes) = %x, %d", s, size, length, l, e)
					}
					continue
				}
				if want := packetsOf(s, fullWord(s, cut(dataText(s, size, object), size))); e != api.OK || !reflect.DeepEqual(l, want) {
					t.Fatalf("P10: Send(%v, %d, %x) = %x, %d, want %x", s, size, object, l, e, want)
				}
			}
		}
	}
}

func TestSendWithWrongArguments(t *testing.T) {
	sizes := []int{0, 17, -1, -16, 32, 257, 65536, math.MinInt, math.MaxInt}
	objects := []string{"", "a", "ab", strings.Repeat("a", 319), strings.Repeat("\x00", 1<<16), strings.Repeat("a", 1<<20)}
	for _, object := range objects {
		for _, s := range wrongSpecs {
			for _, size := range append(sizes, 1, 2, 16) {
				if l, e := Send(s, size, object); l != nil || e != api.ErrSpec {
					t.Errorf("P1, P10: Send(%v, %d, %d bytes) = %x, %d", s, size, len(object), l, e)
				}
			}
		}
		for _, s := range []api.Spec{spec(1, 1, 1, 0), spec(2, 2, 1, 0), spec(20, 20, 20, 65535)} {
			for _, size := range sizes {
				if l, e := Send(s, size, object); l != nil || e != api.ErrArg {
					t.Errorf("P1, P10: Send(%v, %d, %d bytes) = %x, %d", s, size, len(object), l, e)
				}
			}
		}
	}
	for _, s := range []api.Spec{spec(1, 1, 1, 0), spec(1, 20, 20, 65535), spec(2, 2, 1, 0), spec(20, 20, 20, 65535)} {
		for size := 1; size <= 16; size++ {
			for _, more := range []int{1, 2, 256, 65536, 1 << 20} {
				if length := s.Data*size - 2 + more; length >= 0 {
					if l, e := Send(s, size, strings.Repeat("\x00", length)); l != nil || e != api.ErrShape {
						t.Errorf("P1, P10: Send(%v, %d, %d bytes) = %x, %d", s, size, length, l, e)
					}
				}
			}
		}
	}
	// Where there is no room for the length, there is not even an empty object.
	if l, e := Send(spec(1, 1, 1, 0), 1, ""); l != nil || e != api.ErrShape {
		t.Errorf("P10: Send of nothing into one byte = %x, %d", l, e)
	}
	if l, e := Send(spec(1, 1, 1, 0), 2, ""); len(l) != 2 || e != api.OK {
		t.Errorf("P10: Send of nothing into two bytes = %x, %d", l, e)
	}
	if l, e := Send(spec(2, 1, 1, 0), 1, ""); len(l) != 3 || e != api.OK {
		t.Errorf("P10: Send of nothing into two pieces = %x, %d", l, e)
	}
}

func TestPacketsAreTheCallers(t *testing.T) {
	for _, s := range []api.Spec{spec(2, 2, 1, 0), spec(1, 1, 1, 65535), spec(20, 20, 3, 1)} {
		mine, other := send(t, s, 4, "ab"), send(t, s, 4, "ab")
		want := append([]string(nil), mine...)
		c := Listen()
		for _, packet := range mine {
			hear(t, c, packet, api.OK)
		}
		room := mine[:cap(mine)]
		for i := range room {
			room[i] = "mine"
		}
		if !reflect.DeepEqual(other, want) {
			t.Errorf("P2: writing into one answer of Send(%v) changed another", s)
		}
		if again := send(t, s, 4, "ab"); !reflect.DeepEqual(again, want) {
			t.Errorf("P2: Send(%v) a third time = %x, want %x", s, again, want)
		}
		if got := say(c); got != "6162 0, wants 0" {
			t.Errorf("P2: after writing into the packets the catcher says %s", got)
		}
		for i := range room {
			if room[i] != "mine" {
				t.Errorf("P2: a later call wrote into an earlier answer of Send(%v)", s)
			}
		}
	}
}

func TestACatcherThatHasHeardNothing(t *testing.T) {
	c := Listen()
	if c == nil {
		t.Fatal("P11: Listen gave nil")
	}
	object, e := c.Object()
	if object != "" || e != api.ErrOpen || c.Wants() != -1 {
		t.Errorf("P12: Object = %q, %d, Wants = %d", object, e, c.Wants())
	}
	if got := say(c); got != saidAtFirst {
		t.Errorf("P12: it says %s", got)
	}
}

func TestCatchersWorkedOutByHand(t *testing.T) {
	two := spec(2, 2, 1, 0)
	l := send(t, two, 2, "A")
	other := packetOf(spec(2, 2, 1, 1), 2, 1, "A\x00")
	for n, steps := range [][]struct {
		packet string
		e      api.Errno
		said   string
	}{
		{
			{l[0], api.OK, " 5, wants 1"},
			{l[3], api.OK, "41 0, wants 0"},
		},
		{
			{"", api.ErrPacket, saidAtFirst},
			{l[2], api.OK, " 5, wants 1"},
			{l[3], api.OK, " 5, wants 1"},
			{other, api.ErrOther, " 5, wants 1"},
			{packetOf(two, 2, 3, "A\x00"), api.ErrContrary, " 5, wants 1"},
			{l[2], api.OK, " 5, wants 1"},
			{l[1], api.OK, "41 0, wants 0"},
			{packetOf(two, 2, 0, "\x01\x01"), api.ErrContrary, "41 0, wants 0"},
			{l[0], api.OK, "41 0, wants 0"},
			{other, api.ErrOther, "41 0, wants 0"},
			{"R", api.ErrPacket, "41 0, wants 0"},
		},
		{
			{other, api.OK, " 5, wants 1"},
			{l[0], api.ErrOther, " 5, wants 1"},
			{packetOf(spec(2, 2, 1, 1), 2, 0, "\x01\x00"), api.OK, "41 0, wants 0"},
		},
		{
			// an object against its own length, and then one that is too long
			{packetOf(two, 2, 0, "\x01\x00"), api.OK, " 5, wants 1"},
			{packetOf(two, 2, 1, "ab"), api.OK, " 8, wants 0"},
			{packetOf(two, 2, 1, "a\x00"), api.ErrContrary, " 8, wants 0"},
		},
		{
			{packetOf(two, 2, 0, "\x03\x00"), api.OK, " 5, wants 1"},
			{packetOf(two, 2, 1, "ab"), api.OK, " 8, wants 0"},
		},
		{
			{packetOf(spec(1, 1, 1, 0), 1, 1, "\x00"), api.OK, " 8, wants 0"},
		},
		{
			{packetOf(spec(1, 1, 1, 0), 2, 1, "\x00\x00"), api.OK, " 0, wants 0"},
		},
	} {
		c := Listen()
		for k, step := range steps {
			if e := c.Hear(step.packet); e != step.e {
				t.Errorf("P11: catcher %d, step %d: Hear(%.80x) = %d, want %d", n, k, step.packet, e, step.e)
			}
			if got := say(c); got != step.said {
				t.Errorf("P12: catcher %d, step %d: it says %s, want %s", n, k, got, step.said)
			}
		}
	}
}

// ear is a catcher, what it should have taken, and what it should say then.
type ear struct {
	c    *Catcher
	s    api.Spec
	size int
	in   map[int]string
	says string
}

func newEar() *ear { return &ear{c: Listen(), in: map[int]string{}, says: saidAtFirst} }

// should tells what Hear should answer, and takes the packet if it should be taken.
func (x *ear) should(packet string) api.Errno {
	s, size, number, piece, is := parse(packet)
	if !is {
		return api.ErrPacket
	}
	if len(x.in) > 0 && (s != x.s || size != x.size) {
		return api.ErrOther
	}
	if old, there := x.in[number]; there && old != piece {
		return api.ErrContrary
	}
	with := map[int]string{number: piece}
	for i, p := range x.in {
		with[i] = p
	}
	if _, may := unknowns(s, size, with); !may {
		return api.ErrContrary
	}
	x.s, x.size, x.in = s, size, with
	return api.OK
}

// hears hands a packet on, and looks at all that the catcher answers then.
func (x *ear) hears(t *testing.T, packet string) api.Errno {
	t.Helper()
	want := x.should(packet)
	if e := x.c.Hear(packet); e != want {
		t.Fatalf("P11: %v, size %d, with %x: Hear(%.80x) = %d, want %d", x.s, x.size, x.in, packet, e, want)
	}
	if want == api.OK {
		x.says = shouldSay(x.s, x.size, x.in)
	}
	if got := say(x.c); got != x.says {
		t.Fatalf("P12: %v, size %d, with %x: after Hear(%.80x) it says %s, want %s", x.s, x.size, x.in, packet, got, x.says)
	}
	return want
}

// parse takes a text as what a packet of its size would be, and looks whether laying it out again makes the same text.
func parse(text string) (s api.Spec, size, number int, piece string, is bool) {
	if len(text) < 10 || len(text) > 25 {
		return
	}
	s = spec(int(text[1]), int(text[2]), int(text[3]), int(text[4])|int(text[5])<<8)
	size, number, piece = len(text)-9, int(text[7]), text[8:len(text)-1]
	may := 1 <= s.Data && s.Data <= 20 && 1 <= s.Spare && s.Spare <= 20 && 1 <= s.Ones && s.Ones <= s.Spare
	is = may && number < s.Data+s.Spare && packetOf(s, size, number, piece) == text
	return
}

// ears: one that has heard nothing, one that has heard a first packet, one that has heard all.
func ears(t *testing.T, s api.Spec, size int, object string) []*ear {
	t.Helper()
	l := []*ear{newEar(), newEar(), newEar()}
	packets := send(t, s, size, object)
	l[1].hears(t, packets[len(packets)-1])
	for _, packet := range packets {
		l[2].hears(t, packet)
	}
	return l
}

// Texts that are no packet, each against catchers that have heard nothing, something and all.
func turnedDown(t *testing.T, l []*ear, text string) {
	t.Helper()
	for n, x := range l {
		if e := x.hears(t, text); e != api.ErrPacket {
			t.Fatalf("P11: catcher %d: the test takes %.60x for a packet: %d", n, text, e)
		}
	}
}

func TestTextsOfAnotherLength(t *testing.T) {
	for _, size := range []int{1, 2, 16} {
		s := spec(3, 2, 1, 517)
		l := ears(t, s, size, "")
		for _, packet := range []string{send(t, s, size, "")[0], packetOf(s, size, 4, strings.Repeat("\x00", size)), packetOf(s, size, 0, someText(size, 3))} {
			for n := 0; n < len(packet); n++ {
				turnedDown(t, l, packet[:n])
				turnedDown(t, l, packet[n+1:])
				// sealed again, so that the length alone is wrong
				if n < len(packet)-1 {
					turnedDown(t, l, seal(packet[:n]))
				}
			}
			for _, more := range []string{"\x00", "\x00\x00", "R", packet, strings.Repeat("\x00", 256), strings.Repeat("\x00", 65536), strings.Repeat("R", 9000000)} {
				turnedDown(t, l, packet+more)
				turnedDown(t, l, seal(packet[:len(packet)-1]+more))
				turnedDown(t, l, more+packet)
			}
		}
	}
	l := ears(t, spec(2, 2, 1, 0), 2, "A")
	for n := 0; n < 40; n++ {
		turnedDown(t, l, strings.Repeat("\x00", n))
		turnedDown(t, l, strings.Repeat("R", n))
		turnedDown(t, l, seal(strings.Repeat("\xff", n)))
	}
}

// Any one byte changed makes the sum another.
func TestEveryByteChanged(t *testing.T) {
	s := spec(3, 2, 1, 517)
	l := ears(t, s, 3, "abcdef")
	for _, packet := range send(t, s, 3, "abcdef") {
		for i := 0; i < len(packet); i++ {
			for b := 0; b < 256; b++ {
				if byte(b) != packet[i] {
					turnedDown(t, l, packet[:i]+string([]byte{byte(b)})+packet[i+1:])
				}
			}
		}
	}
}

// Any one byte changed, and the sum made right again: what it is then hangs on the byte. The piece's length is as it was, or as the size tells.
func TestEveryByteChangedAndSealed(t *testing.T) {
	answers := map[api.Errno]int{}
	for _, c := range []struct {
		s    api.Spec
		size int
	}{{spec(3, 2, 1, 517), 2}, {spec(20, 20, 20, 65535), 16}, {spec(1, 1, 1, 0), 3}} {
		packets := send(t, c.s, c.size, "a")
		for _, packet := range []string{packets[0], packets[len(packets)-1]} {
			open := packet[:len(packet)-1]
			for i := 0; i < len(open); i++ {
				l := ears(t, c.s, c.size, "a")
				for b := 0; b < 256; b++ {
					texts := []string{seal(open[:i] + string([]byte{byte(b)}) + open[i+1:])}
					if i == 6 {
						texts = append(texts, seal(open[:6]+string([]byte{byte(b)})+open[7:8]+strings.Repeat("\x00", b)))
					}
					for _, text := range texts {
						// What was taken at first would make all others another's.
						l[0] = newEar()
						for _, x := range l {
							answers[x.hears(t, text)]++
						}
					}
				}
			}
		}
	}
	for _, e := range []api.Errno{api.OK, api.ErrPacket, api.ErrOther, api.ErrContrary} {
		if answers[e] < 100 {
			t.Errorf("the answer %d came only %d times", e, answers[e])
		}
	}
}

func TestSpecificationsThatMayNotBe(t *testing.T) {
	l := ears(t, spec(2, 2, 1, 0), 2, "A")
	for _, s := range []api.Spec{
		spec(0, 2, 1, 0), spec(21, 2, 1, 0), spec(255, 2, 1, 0), spec(0, 4, 1, 0),
		spec(2, 0, 0, 0), spec(2, 0, 1, 0), spec(2, 21, 1, 0), spec(2, 255, 1, 0), spec(4, 0, 1, 0),
		spec(2, 2, 0, 0), spec(2, 2, 3, 0), spec(2, 2, 255, 0), spec(2, 20, 21, 0), spec(0, 0, 0, 0),
	} {
		for _, number := range []int{0, 1, 3} {
			turnedDown(t, l, packetOf(s, 2, number, "\x00\x00"))
		}
	}
	for _, size := range []int{0, 17, 18, 32, 255} {
		turnedDown(t, l, packetOf(spec(2, 2, 1, 0), size, 0, strings.Repeat("\x00", size)))
	}
	for _, s := range []api.Spec{spec(1, 1, 1, 0), spec(2, 2, 1, 0), spec(20, 1, 1, 9), spec(1, 20, 20, 9), spec(20, 20, 1, 65535)} {
		for size := 1; size <= 16; size++ {
			zero := strings.Repeat("\x00", size)
			for number := 0; number < s.Data+s.Spare; number++ {
				hear(t, Listen(), packetOf(s, size, number, zero), api.OK)
			}
			for _, number := range []int{s.Data + s.Spare, s.Data + s.Spare + 1, 40, 64, 128, 255} {
				if number >= s.Data+s.Spare {
					hear(t, Listen(), packetOf(s, size, number, zero), api.ErrPacket)
				}
			}
		}
	}
	// Every number that a specification has may be at its least and at its greatest.
	for _, s := range someSpecs() {
		x := newEar()
		if e := x.hears(t, packetOf(s, 1, 0, "\x02")); e != api.OK {
			t.Fatalf("P11: a packet of %v: %d", s, e)
		}
	}
}

// Packets of each other specification and size; the pieces are noughts, which may be everywhere, or such that would be contrary.
func TestPacketsOfAnotherObject(t *testing.T) {
	s := spec(5, 4, 2, 0x0102)
	others := []api.Spec{
		spec(4, 4, 2, 0x0102), spec(6, 4, 2, 0x0102), spec(5, 3, 2, 0x0102), spec(5, 5, 2, 0x0102), spec(4, 5, 2, 0x0102), spec(6, 3, 2, 0x0102),
		spec(5, 4, 1, 0x0102), spec(5, 4, 3, 0x0102), spec(5, 4, 2, 0x0103), spec(5, 4, 2, 0x0202), spec(5, 4, 2, 0x0201), spec(5, 4, 2, 0), spec(5, 4, 2, 65535),
	}
	l := ears(t, s, 2, "abcdefgh")[1:]
	for _, x := range l {
		for _, other := range others {
			for number := 0; number < other.Data+other.Spare; number++ {
				for _, piece := range []string{"\x00\x00", "zz"} {
					if e := x.hears(t, packetOf(other, 2, number, piece)); e != api.ErrOther {
						t.Fatalf("P11: a packet of %v beside such of %v: %d", other, s, e)
					}
				}
			}
			for _, packet := range send(t, other, 2, "ab") {
				x.hears(t, packet)
			}
		}
		for size := 1; size <= 16; size++ {
			if size != 2 {
				if e := x.hears(t, packetOf(s, size, 3, strings.Repeat("\x00", size))); e != api.ErrOther {
					t.Fatalf("P11: a packet of size %d: %d", size, e)
				}
			}
		}
		// No packet at all, though of another specification; and another one's, though contrary.
		if e := x.hears(t, packetOf(others[0], 2, 3, "zz")+"\x00"); e != api.ErrPacket {
			t.Errorf("P1, P11: no packet, of another specification: %d", e)
		}
		if e := x.hears(t, packetOf(spec(3, 3, 1, 0), 2, 3, "zz")); e != api.ErrOther {
			t.Errorf("P1, P11: another's contrary piece: %d", e)
		}
		for _, packet := range send(t, s, 2, "abcdefgh") {
			if e := x.hears(t, packet); e != api.OK {
				t.Errorf("P11: after all that its own packet: %d", e)
			}
		}
	}
}

// A piece that is noughts in every word can be contrary ahead of all others: it settles nothing.
func TestAContraryFirstPacket(t *testing.T) {
	never := 0
	for n, s := range someSpecs() {
		size := 1 + n%16
		b := newBox(t, s, size)
		for i := s.Data; i < s.Data+s.Spare; i++ {
			if _, e := b.Get(i); e != api.OK {
				continue
			}
			never++
			c := Listen()
			wrong := strings.Repeat("\x00", size-1) + "\x80"
			for k := 0; k < 2; k++ {
				hear(t, c, packetOf(s, size, i, wrong), api.ErrContrary)
				if got := say(c); got != saidAtFirst {
					t.Fatalf("P11, P12: after a contrary first packet of %v it says %s", s, got)
				}
			}
			if n%2 == 0 {
				hear(t, c, packetOf(spec(2, 2, 1, 0), 2, 0, "\x01\x00"), api.OK)
				hear(t, c, packetOf(spec(2, 2, 1, 0), 2, 1, "A\x00"), api.OK)
				if got := say(c); got != "41 0, wants 0" {
					t.Fatalf("P11, P12: after a contrary first packet of %v, and another object's, it says %s", s, got)
				}
				continue
			}
			hear(t, c, packetOf(s, size, i, strings.Repeat("\x00", size)), api.OK)
			if got, want := say(c), fmt.Sprintf(" 5, wants %d", s.Data); got != want {
				t.Fatalf("P11, P12: a catcher of %v with noughts says %s, want %s", s, got, want)
			}
			hear(t, c, packetOf(s, size, i, wrong), api.ErrContrary)
		}
	}
	if never < 100 {
		t.Errorf("only %d such pieces were tried", never)
	}
}

// spoilt makes a text from a packet that is to be refused, or at least is another packet.
func spoilt(r *rand.Rand, s api.Spec, size int, packet string) string {
	switch r.Intn(7) {
	case 0:
		return packet[:r.Intn(len(packet))]
	case 1:
		return packet + "\x00"
	case 2:
		i := r.Intn(len(packet))
		return packet[:i] + string([]byte{packet[i] ^ byte(1<<r.Intn(8))}) + packet[i+1:]
	case 3:
		i := 8 + r.Intn(size)
		return seal(packet[:i] + string([]byte{packet[i] ^ byte(1<<r.Intn(8))}) + packet[i+1:len(packet)-1])
	case 4:
		return packetOf(spec(s.Data, s.Spare, s.Ones, s.Seed^1), size, int(packet[7]), packet[8:8+size])
	case 5:
		return packetOf(s, 1+size%16, int(packet[7]), strings.Repeat("\x00", 1+size%16))
	}
	return packetOf(s, size, r.Intn(s.Data+s.Spare), packet[8:8+size])
}

// The packets of an object in any order, some twice, some never, and between them such as are refused.
func TestPacketsInAnyOrderAndTwice(t *testing.T) {
	r := rand.New(rand.NewSource(8))
	specs := someSpecs()
	answers := map[api.Errno]int{}
	whole := 0
	for round := 0; round < 150; round++ {
		s := specs[r.Intn(len(specs))]
		size := 1 + r.Intn(16)
		if s.Data*size < 2 {
			continue
		}
		object := someText(r.Intn(s.Data*size-1), round)
		packets := send(t, s, size, object)
		order := r.Perm(len(packets))
		order = append(order[:len(order):len(order)], order[:r.Intn(len(order)+1)]...)
		r.Shuffle(len(order), func(a, b int) { order[a], order[b] = order[b], order[a] })
		if round%3 == 0 {
			order = order[:r.Intn(len(order))]
		}
		x := newEar()
		for _, i := range order {
			// Before a first packet is taken, any that is another's would settle the matter.
			if len(x.in) > 0 {
				for r.Intn(2) == 0 {
					text := spoilt(r, s, size, packets[r.Intn(len(packets))])
					if _, _, _, _, is := parse(text); is {
						// Where nothing contradicts it, a wrong packet would be taken.
						if e := (&ear{s: x.s, size: x.size, in: x.in}).should(text); e == api.OK {
							continue
						}
					}
					answers[x.hears(t, text)]++
				}
			}
			if e := x.hears(t, packets[i]); e != api.OK {
				t.Fatalf("P11: %v: the packet %d of %x: %d", s, i, object, e)
			}
			answers[api.OK]++
		}
		got, e := x.c.Object()
		if e == api.OK {
			whole++
			if got != object || x.c.Wants() != 0 {
				t.Fatalf("P12: %v: Object = %x, Wants = %d, want %x", s, got, x.c.Wants(), object)
			}
		} else if round%3 != 0 {
			t.Fatalf("P12: %v: with all packets Object = %x, %d", s, got, e)
		}
	}
	for _, e := range []api.Errno{api.OK, api.ErrPacket, api.ErrOther, api.ErrContrary} {
		if answers[e] < 100 {
			t.Errorf("the answer %d came only %d times", e, answers[e])
		}
	}
	if whole < 80 {
		t.Errorf("only %d objects came through", whole)
	}
}

// Packets of mixed pieces, right and wrong, taken where they may be: all sorts of data come out.
func TestMixedPackets(t *testing.T) {
	r := rand.New(rand.NewSource(9))
	specs := []api.Spec{spec(1, 1, 1, 0), spec(1, 3, 2, 4), spec(2, 2, 1, 0), spec(3, 3, 1, 0), spec(3, 4, 2, 65535), spec(6, 5, 3, 12)}
	results := map[api.Errno]int{}
	for round := 0; round < 400; round++ {
		s := specs[r.Intn(len(specs))]
		size := 1 + r.Intn(2)
		x := newEar()
		for n := 0; n < 2*(s.Data+s.Spare); n++ {
			piece := make([]byte, size)
			for k := range piece {
				piece[k] = byte(r.Intn(3))
			}
			x.hears(t, packetOf(s, size, r.Intn(s.Data+s.Spare), string(piece)))
			_, e := x.c.Object()
			results[e]++
		}
	}
	for _, e := range []api.Errno{api.OK, api.ErrOpen, api.ErrForm} {
		if results[e] < 100 {
			t.Errorf("the result %d came only %d times", e, results[e])
		}
	}
}

// caught hands the data over as packets, in a way that hangs on the salt: from the front, from behind, or the spare ones first.
func caught(t *testing.T, s api.Spec, size int, data string, salt int) *Catcher {
	t.Helper()
	c := Listen()
	packets := packetsOf(s, fullWord(s, cut(data, size)))
	for n := range packets {
		i := n
		switch salt % 3 {
		case 1:
			i = len(packets) - 1 - n
		case 2:
			i = (n + s.Data) % len(packets)
		}
		hear(t, c, packets[i], api.OK)
	}
	return c
}

// formed looks at what Object makes of some data.
func formed(t *testing.T, s api.Spec, size int, data string, salt int) api.Errno {
	t.Helper()
	c := caught(t, s, size, data, salt)
	want, is := asObject(s, size, data)
	wantE := api.OK
	if !is {
		wantE = api.ErrForm
	}
	if object, e := c.Object(); object != want || e != wantE || c.Wants() != 0 {
		t.Fatalf("P12: %v, size %d: of %x Object = %x, %d, Wants = %d, want %x, %d", s, size, data, object, e, c.Wants(), want, wantE)
	}
	return wantE
}

func TestDataOfNoObject(t *testing.T) {
	for _, c := range []struct {
		s    api.Spec
		size int
	}{{spec(1, 1, 1, 0), 2}, {spec(2, 2, 1, 0), 1}, {spec(1, 2, 1, 3), 3}, {spec(3, 2, 1, 3), 1}, {spec(2, 2, 1, 0), 2}, {spec(5, 3, 2, 65535), 4}, {spec(17, 2, 1, 1), 16}, {spec(20, 20, 20, 65535), 16}} {
		longest := c.s.Data*c.size - 2
		for _, length := range []int{0, 1, longest - 1, longest, longest + 1, longest + 2, 255, 256, 257, 511, 512, 256 + longest, 32768, 65280, 65535} {
			if length < 0 {
				continue
			}
			head := string([]byte{byte(length & 255), byte(length >> 8)})
			// Noughts, of which as many are the object as the length tells; and a byte that is none, at each place.
			zero := strings.Repeat("\x00", longest)
			e := formed(t, c.s, c.size, head+zero, length)
			if (e == api.OK) != (length <= longest) {
				t.Fatalf("the test takes a length of %d of %d for %d", length, longest, e)
			}
			for k := 0; k < longest; k++ {
				data := head + zero[:k] + "\x01" + zero[k+1:]
				e := formed(t, c.s, c.size, data, length+k)
				if (e == api.OK) != (length <= longest && k < length) {
					t.Fatalf("the test takes %x for %d", data, e)
				}
			}
			formed(t, c.s, c.size, head+strings.Repeat("\xff", longest), length)
		}
	}
}

// Where there is no room for a length, no data are an object's; where there is just room for it, those of the empty one are.
func TestTheSmallestData(t *testing.T) {
	for b := 0; b < 256; b++ {
		text := string([]byte{byte(b)})
		for n, s := range []api.Spec{spec(1, 1, 1, 0), spec(1, 3, 2, 65535)} {
			if e := formed(t, s, 1, text, n+b); e != api.ErrForm {
				t.Errorf("the test takes %x for %d", text, e)
			}
		}
		for _, data := range []string{text + "\x00", "\x00" + text, text + text} {
			want := api.ErrForm
			if data == "\x00\x00" {
				want = api.OK
			}
			if e := formed(t, spec(1, 2, 1, 5), 2, data, b); e != want {
				t.Errorf("the test takes %x for %d", data, e)
			}
			if e := formed(t, spec(2, 2, 2, 5), 1, data, b); e != want {
				t.Errorf("the test takes %x for %d", data, e)
			}
		}
	}
}

// A length that may not be does not matter as long as a piece of data is open.
func TestOpenComesBeforeForm(t *testing.T) {
	s := spec(4, 3, 1, 2)
	for missing := 0; missing < 4; missing++ {
		c := Listen()
		for i := 0; i < 4; i++ {
			if i != missing {
				hear(t, c, packetOf(s, 2, i, "\xff\xff"), api.OK)
			}
		}
		if object, e := c.Object(); object != "" || e != api.ErrOpen || c.Wants() != 1 {
			t.Errorf("P1, P12: without %d Object = %q, %d, Wants = %d", missing, object, e, c.Wants())
		}
		hear(t, c, packetOf(s, 2, missing, "\xff\xff"), api.OK)
		if object, e := c.Object(); object != "" || e != api.ErrForm || c.Wants() != 0 {
			t.Errorf("P1, P12: with all Object = %q, %d, Wants = %d", object, e, c.Wants())
		}
	}
}

// Objects of every length come through, from the data alone, and from the least of packets that tell all.
func TestObjectsComeThrough(t *testing.T) {
	for n, s := range someSpecs() {
		size := 1 + n%16
		if s.Data*size < 2 {
			continue
		}
		longest := s.Data*size - 2
		object := someText(n*31%(longest+1), n)
		switch n % 5 {
		case 0:
			object = someText(longest, n)
		case 1:
			object = ""
		case 2:
			object = strings.Repeat("\x00", longest)
		}
		packets := send(t, s, size, object)
		plain, sparing := Listen(), Listen()
		for i := 0; i < s.Data; i++ {
			hear(t, plain, packets[i], api.OK)
		}
		b := newBox(t, s, size)
		heard := 0
		for i := len(packets) - 1; i >= 0; i-- {
			if _, e := b.Get(i); e == api.OK {
				continue
			}
			piece := packets[i][8 : 8+size]
			b.Put(i, piece)
			hear(t, sparing, packets[i], api.OK)
			heard++
			if sparing.Wants() != b.Need() || b.Need() != s.Data-heard {
				t.Fatalf("P12: %v: after %d packets Wants = %d, Need of a box is %d", s, heard, sparing.Wants(), b.Need())
			}
		}
		want := fmt.Sprintf("%x 0, wants 0", object)
		if a, b := say(plain), say(sparing); a != want || b != want {
			t.Fatalf("P12: %v, size %d: they say %s and %s, want %s", s, size, a, b, want)
		}
	}
}

// Catchers of one object, of another one of the same specification, and of others, that hear in turn.
func TestCatchersDoNotTouchOneAnother(t *testing.T) {
	specs := []api.Spec{spec(4, 5, 2, 10), spec(4, 5, 2, 10), spec(4, 5, 2, 11), spec(9, 3, 1, 0), spec(20, 20, 5, 65535)}
	sizes := []int{2, 2, 2, 1, 16}
	objects := []string{"first", "second", "first", "third", "fourth"}
	l := make([]*ear, len(specs))
	packets := make([][]string, len(specs))
	for n, s := range specs {
		l[n] = newEar()
		packets[n] = send(t, s, sizes[n], objects[n])
	}
	r := rand.New(rand.NewSource(10))
	for round := 0; round < 200; round++ {
		n := r.Intn(len(l))
		l[n].hears(t, packets[n][r.Intn(len(packets[n]))])
		l[n].hears(t, packets[n][0][1:])
		if len(l[n].in) > 0 {
			other := (n + 2) % len(l)
			l[n].hears(t, packets[other][r.Intn(len(packets[other]))])
		}
		Listen().Hear(packets[n][0])
		for m, x := range l {
			if got := say(x.c); got != x.says {
				t.Fatalf("P2: after catcher %d has heard, catcher %d says %s, want %s", n, m, got, x.says)
			}
		}
	}
}

// What is known about words and boxes stays the same, whatever was sent and heard.
func TestWordsAndBoxesBesideCatchers(t *testing.T) {
	s := spec(5, 4, 2, 31)
	packets := send(t, s, 3, "some object")
	word := fullWord(s, cut(dataText(s, 3, "some object"), 3))
	c, b := Listen(), newBox(t, s, 3)
	in := map[int]string{}
	for i := len(word) - 1; i >= 0; i-- {
		hear(t, c, packets[i], api.OK)
		c.Hear(packets[i][:5])
		send(t, s, 3, "another")
		if got, _ := unknowns(s, 3, in); tell(b, s) != got {
			t.Errorf("P8, P9: beside a catcher the box tells %s, want %s", tell(b, s), got)
		}
		if e := b.Put(i, word[i]); e != api.OK {
			t.Errorf("P7: beside a catcher Put(%d, %x) = %d", i, word[i], e)
		}
		in[i] = word[i]
		if rows, e := Rows(s); e != api.OK || !reflect.DeepEqual(rows, expectedRows(s)) {
			t.Errorf("P3: beside a catcher Rows(%v) = %v, %d", s, rows, e)
		}
		if spare, e := Spare(s, word[:5]); e != api.OK || !reflect.DeepEqual(spare, word[5:]) {
			t.Errorf("P4: beside a catcher Spare(%v) = %x, %d", s, spare, e)
		}
		if fits, e := Fits(s, word); !fits || e != api.OK {
			t.Errorf("P5: beside a catcher Fits(%v) = %v, %d", s, fits, e)
		}
		if b, e := New(s, 17); b != nil || e != api.ErrArg {
			t.Errorf("P6: beside a catcher New(%v, 17) = %v, %d", s, b, e)
		}
	}
	if got := tell(b, s); got != told(word) {
		t.Errorf("P8, P9: beside a catcher the box tells %s, want %s", got, told(word))
	}
}
