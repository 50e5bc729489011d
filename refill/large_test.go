package refill

import (
	"fmt"
	"math"
	"math/rand"
	"reflect"
	"strings"
	"testing"

	"refill/api"
)

// sheetOf lays a sheet out byte by byte, whether it may be or not.
func sheetOf(part, parts int, packet string) string {
	return string([]byte{0x53, byte(part), byte(parts)}) + packet
}

// partsOf tells where each part begins and ends, from the number of parts.
func partsOf(s api.Spec, size int, object string) []string {
	room := s.Data*size - 2
	count := (len(object) + room - 1) / room
	if object == "" {
		count = 1
	}
	l := make([]string, count)
	for i := range l {
		l[i] = object[i*room : min((i+1)*room, len(object))]
	}
	return l
}

// sheetsOfParts makes the sheets of these parts, not mixed, whether they are those of a large object or not.
func sheetsOfParts(s api.Spec, size int, parts []string) []string {
	var l []string
	for i, part := range parts {
		for _, packet := range packetsOf(s, fullWord(s, cut(dataText(s, size, part), size))) {
			l = append(l, sheetOf(i, len(parts), packet))
		}
	}
	return l
}

// plainSheets makes the sheets of a large object, not mixed.
func plainSheets(s api.Spec, size int, object string) []string {
	return sheetsOfParts(s, size, partsOf(s, size, object))
}

// places tells, for an order, the place in plainSheets of each sheet that comes out.
func places(n, order int) []int {
	l := make([]int, n)
	for i := range l {
		l[i] = i
	}
	x := uint64(order)
	for left := n; left > 1; left-- {
		x = (x*75 + 74) % 65537
		d := x % uint64(left)
		l[left-1], l[d] = l[d], l[left-1]
	}
	return l
}

// inOrder mixes sheets as an order says.
func inOrder(plain []string, order int) []string {
	l := make([]string, len(plain))
	for i, place := range places(len(plain), order) {
		l[i] = plain[place]
	}
	return l
}

func mail(t *testing.T, s api.Spec, size int, object string, order int) []string {
	t.Helper()
	l, e := Mail(s, size, object, order)
	if e != api.OK || len(l) == 0 {
		t.Fatalf("P13: Mail(%v, %d, %.40x, %d) = %x, %d", s, size, object, order, l, e)
	}
	return l
}

// mailed looks at what Mail makes of an object.
func mailed(t *testing.T, s api.Spec, size int, object string, order int) {
	t.Helper()
	want := inOrder(plainSheets(s, size, object), order)
	if l, e := Mail(s, size, object, order); e != api.OK || !reflect.DeepEqual(l, want) {
		t.Fatalf("P13: Mail(%v, %d, %x, %d) = %x, %d, want %x", s, size, object, order, l, e, want)
	}
}

// notMailed looks for an error, and that nothing stands beside it.
func notMailed(t *testing.T, s api.Spec, size int, object string, order int, want api.Errno) {
	t.Helper()
	if l, e := Mail(s, size, object, order); l != nil || e != want {
		t.Errorf("P1, P13: Mail(%v, %d, %d bytes, %d) = %d sheets, %d, want %d", s, size, len(object), order, len(l), e, want)
	}
}

func TestMailWorkedOutByHand(t *testing.T) {
	for _, c := range []struct {
		s      api.Spec
		size   int
		object string
		order  int
		want   []string
	}{
		// 74 below 2: 0
		{spec(1, 1, 1, 0), 3, "x", 0, []string{
			"S\x00\x01\x52\x01\x01\x01\x00\x00\x03\x01\x01\x00\x78\x2e",
			"S\x00\x01\x52\x01\x01\x01\x00\x00\x03\x00\x01\x00\x78\x2f",
		}},
		// 149 below 2: 1
		{spec(1, 1, 1, 0), 3, "x", 1, []string{
			"S\x00\x01\x52\x01\x01\x01\x00\x00\x03\x00\x01\x00\x78\x2f",
			"S\x00\x01\x52\x01\x01\x01\x00\x00\x03\x01\x01\x00\x78\x2e",
		}},
		// 65461 below 4: 1; 59911 below 3: 1; 36883 below 2: 1
		{spec(2, 2, 1, 0), 2, "", 65535, []string{
			"S\x00\x01\x52\x02\x02\x01\x00\x00\x02\x00\x00\x00\xa7",
			"S\x00\x01\x52\x02\x02\x01\x00\x00\x02\x02\x00\x00\xa5",
			"S\x00\x01\x52\x02\x02\x01\x00\x00\x02\x03\x00\x00\xa4",
			"S\x00\x01\x52\x02\x02\x01\x00\x00\x02\x01\x00\x00\xa6",
		}},
		// Two parts of one byte. 149 below 6: 5; 11249 below 5: 4; 57305 below 4: 1; 38044 below 3: 1; 35283 below 2: 1
		{spec(1, 2, 2, 0), 3, "ab", 1, []string{
			"S\x00\x02\x52\x01\x02\x02\x00\x00\x03\x00\x01\x00\x61\x44",
			"S\x00\x02\x52\x01\x02\x02\x00\x00\x03\x02\x00\x00\x00\xa4",
			"S\x01\x02\x52\x01\x02\x02\x00\x00\x03\x00\x01\x00\x62\x43",
			"S\x00\x02\x52\x01\x02\x02\x00\x00\x03\x01\x01\x00\x61\x43",
			"S\x01\x02\x52\x01\x02\x02\x00\x00\x03\x01\x01\x00\x62\x42",
			"S\x01\x02\x52\x01\x02\x02\x00\x00\x03\x02\x00\x00\x00\xa4",
		}},
	} {
		if l, e := Mail(c.s, c.size, c.object, c.order); e != api.OK || !reflect.DeepEqual(l, c.want) {
			t.Errorf("P13: Mail(%v, %d, %q, %d) = %x, %d, want %x", c.s, c.size, c.object, c.order, l, e, c.want)
		}
	}
}

// The example of the document, whole. 74 below 12: 2; 5624 below 11: 3; 28652 below 10: 2; 51790 below 9: 4; 17641 below 8: 1; 12409 below 7: 5; 13231 below 6: 1; 9344 below 5: 4; 45504 below 4: 0; 4950 below 3: 0; 43639 below 2: 1.
func TestMailOfTheExample(t *testing.T) {
	two := spec(2, 2, 1, 0)
	l := mail(t, two, 2, "abcde", 0)
	if len(l) != 12 {
		t.Fatalf("P13: %d sheets", len(l))
	}
	objects := []string{"ab", "cd", "e"}
	for i, from := range [][2]int{{2, 1}, {1, 2}, {2, 2}, {0, 0}, {2, 0}, {1, 3}, {1, 1}, {0, 1}, {1, 0}, {2, 3}, {0, 3}, {0, 2}} {
		part, piece := from[0], from[1]
		if want := sheetOf(part, 3, send(t, two, 2, objects[part])[piece]); l[i] != want {
			t.Errorf("P13: the sheet at %d is %x, want %x", i, l[i], want)
		}
	}
}

// For the least and the greatest of each number: no part, one that is not full, one that is, one byte more, and as many as there may be.
func TestMailAgainstTheDocument(t *testing.T) {
	orders := []int{0, 1, 2, 77, 32767, 32768, 65534, 65535}
	for n, s := range someSpecs() {
		size := 1 + n%16
		room := s.Data*size - 2
		if room < 1 {
			continue
		}
		lengths := []int{0, 1, room - 1, room, room + 1, 2 * room, 2*room + 1, 3*room - 1}
		if n%50 == 0 {
			lengths = append(lengths, 19*room, 19*room+1, 20*room-1, 20*room)
		}
		for k, length := range lengths {
			if k > 7 || (n+k)%3 == 0 {
				mailed(t, s, size, someText(length, n), orders[(n+k)%8])
			}
		}
	}
}

func TestMailOfEveryLength(t *testing.T) {
	for _, c := range []struct {
		s    api.Spec
		size int
	}{{spec(3, 2, 1, 0), 1}, {spec(1, 1, 1, 65535), 3}, {spec(2, 2, 1, 0), 2}, {spec(4, 1, 1, 9), 1}, {spec(7, 20, 20, 1), 1}} {
		room := c.s.Data*c.size - 2
		for length := 0; length <= 20*room; length++ {
			mailed(t, c.s, c.size, someText(length, length), length*97)
		}
		for length := 20*room + 1; length <= 21*room+2; length++ {
			notMailed(t, c.s, c.size, someText(length, length), length, api.ErrShape)
		}
	}
	// The largest of all parts, full to the last byte.
	large := spec(20, 20, 20, 65535)
	for _, length := range []int{0, 317, 318, 319, 19 * 318, 19*318 + 1, 20*318 - 1, 20 * 318} {
		mailed(t, large, 16, someText(length, length), length)
	}
	if l := mail(t, large, 16, strings.Repeat("\xff", 20*318), 65535); len(l) != 800 {
		t.Errorf("P13: 20 parts of 40 pieces: %d sheets", len(l))
	}
	for _, length := range []int{20*318 + 1, 21 * 318, 65536, 1 << 20, 9000000} {
		notMailed(t, large, 16, strings.Repeat("\x00", length), 0, api.ErrShape)
	}
}

// Every order, of a few sheets; and some, of many.
func TestEveryOrder(t *testing.T) {
	plain := plainSheets(spec(3, 1, 1, 5), 1, "ab")
	for order := 0; order <= 65535; order++ {
		if l := mail(t, spec(3, 1, 1, 5), 1, "ab", order); !reflect.DeepEqual(l, inOrder(plain, order)) {
			t.Fatalf("P13: with order %d the sheets are %x, want %x", order, l, inOrder(plain, order))
		}
	}
	object := someText(20*18, 3)
	plain = plainSheets(spec(20, 20, 3, 5), 1, object)
	for order := 0; order <= 65535; order += 257 {
		if l := mail(t, spec(20, 20, 3, 5), 1, object, order); !reflect.DeepEqual(l, inOrder(plain, order)) {
			t.Fatalf("P13: with order %d the sheets of %x are %x", order, object, l)
		}
	}
}

func TestMailWithWrongArguments(t *testing.T) {
	sizes := []int{0, 17, -1, -16, 32, 257, 65536, math.MinInt, math.MaxInt}
	orders := []int{-1, 65536, -65535, 65537, 1 << 32, math.MinInt, math.MaxInt}
	objects := []string{"", "a", "abcde", strings.Repeat("a", 6361), strings.Repeat("\x00", 9000000)}
	for _, object := range objects {
		for _, s := range wrongSpecs {
			for _, size := range append(sizes, 1, 2, 16) {
				for _, order := range append(orders, 0, 65535) {
					notMailed(t, s, size, object, order, api.ErrSpec)
				}
			}
		}
		for _, s := range []api.Spec{spec(1, 1, 1, 0), spec(2, 2, 1, 0), spec(20, 20, 20, 65535)} {
			for _, size := range sizes {
				for _, order := range append(orders, 0, 65535) {
					notMailed(t, s, size, object, order, api.ErrArg)
				}
			}
			// An order that may not be comes ahead of K * size below 3, and of too many parts.
			for _, size := range []int{1, 2, 16} {
				for _, order := range orders {
					notMailed(t, s, size, object, order, api.ErrArg)
				}
			}
		}
		// K * size 1 and 2: nothing is a large object's.
		for _, s := range []api.Spec{spec(1, 1, 1, 0), spec(1, 20, 20, 65535)} {
			for _, order := range []int{0, 1, 65535} {
				notMailed(t, s, 1, object, order, api.ErrShape)
				notMailed(t, s, 2, object, order, api.ErrShape)
				notMailed(t, spec(2, s.Spare, s.Ones, s.Seed), 1, object, order, api.ErrShape)
			}
		}
	}
	// K * size 3: parts of one byte.
	for _, order := range []int{0, 65535} {
		for _, object := range []string{"", "a", "ab", someText(20, 1)} {
			mailed(t, spec(1, 1, 1, 0), 3, object, order)
			mailed(t, spec(3, 20, 20, 65535), 1, object, order)
		}
		notMailed(t, spec(1, 1, 1, 0), 3, someText(21, 1), order, api.ErrShape)
		notMailed(t, spec(3, 20, 20, 65535), 1, someText(21, 1), order, api.ErrShape)
	}
}

func TestSheetsAreTheCallers(t *testing.T) {
	for _, s := range []api.Spec{spec(2, 2, 1, 0), spec(1, 1, 1, 65535), spec(20, 20, 3, 1)} {
		object := someText(3*(s.Data*4-2)-1, 2)
		mine, other := mail(t, s, 4, object, 9), mail(t, s, 4, object, 9)
		want := append([]string(nil), mine...)
		x := Open()
		for _, sheet := range mine {
			takes(t, x, sheet, api.OK)
		}
		room := mine[:cap(mine)]
		for i := range room {
			room[i] = "mine"
		}
		if !reflect.DeepEqual(other, want) {
			t.Errorf("P2: writing into one answer of Mail(%v) changed another", s)
		}
		if again := mail(t, s, 4, object, 9); !reflect.DeepEqual(again, want) {
			t.Errorf("P2: Mail(%v) a third time = %x, want %x", s, again, want)
		}
		if got, want := report(x), fmt.Sprintf("%x 0, lacks 0", object); got != want {
			t.Errorf("P2: after writing into the sheets the inbox reports %s, want %s", got, want)
		}
		for i := range room {
			if room[i] != "mine" {
				t.Errorf("P2: a later call wrote into an earlier answer of Mail(%v)", s)
			}
		}
	}
}

func takes(t *testing.T, x *Inbox, sheet string, want api.Errno) {
	t.Helper()
	if e := x.Take(sheet); e != want {
		t.Fatalf("P14: Take(%.80x) = %d, want %d", sheet, e, want)
	}
}

// report tells all that an inbox answers. It is asked twice, as asking changes nothing.
func report(x *Inbox) string {
	var said [2]string
	for n := range said {
		object, e := x.Whole()
		said[n] = fmt.Sprintf("%x %d, lacks %d", object, e, x.Lacks())
	}
	if said[0] != said[1] {
		return "first " + said[0] + ", then " + said[1]
	}
	return said[0]
}

const reportAtFirst = " 5, lacks -1"

// tray is an inbox, what it should have taken for each part, and what follows from that by way of the equations between the missing pieces.
type tray struct {
	x       *Inbox
	s       api.Spec
	size    int
	in      []map[int]string
	follows []string
	reports string
}

func newTray() *tray { return &tray{x: Open(), reports: reportAtFirst} }

// parseSheet takes a text as what a sheet would be.
func parseSheet(text string) (part, parts int, packet string, is bool) {
	if len(text) < 3 || text[0] != 'S' || text[2] < 1 || text[2] > 20 || text[1] >= text[2] {
		return
	}
	_, _, _, _, is = parse(text[3:])
	return int(text[1]), int(text[2]), text[3:], is
}

// should tells what Take should answer, and takes the sheet if it should be taken.
func (y *tray) should(text string) api.Errno {
	part, parts, packet, is := parseSheet(text)
	if !is {
		return api.ErrPacket
	}
	s, size, number, piece, _ := parse(packet)
	if y.in != nil && (s != y.s || size != y.size || parts != len(y.in)) {
		return api.ErrOther
	}
	with := map[int]string{number: piece}
	if y.in != nil {
		if old, there := y.in[part][number]; there && old != piece {
			return api.ErrContrary
		}
		for i, p := range y.in[part] {
			with[i] = p
		}
	}
	follows, may := unknowns(s, size, with)
	if !may {
		return api.ErrContrary
	}
	if y.in == nil {
		y.s, y.size, y.in, y.follows = s, size, make([]map[int]string, parts), make([]string, parts)
		for i := range y.follows {
			y.follows[i], _ = unknowns(s, size, nil)
		}
	}
	y.in[part], y.follows[part] = with, follows
	return api.OK
}

// shouldReport finds what the inbox should report then.
func (y *tray) shouldReport() string {
	lacks, open := 0, false
	var data []string
	for _, follows := range y.follows {
		fields := strings.Fields(follows)
		need := 0
		fmt.Sscan(fields[len(fields)-1], &need)
		lacks += need
		text := ""
		for _, piece := range fields[:y.s.Data] {
			open = open || piece == "-"
			bytes := make([]byte, y.size)
			fmt.Sscanf(piece, "%x", &bytes)
			text += string(bytes)
		}
		data = append(data, text)
	}
	if open {
		return fmt.Sprintf(" %d, lacks %d", api.ErrOpen, lacks)
	}
	whole, is := asLarge(y.s, y.size, data)
	if !is {
		return fmt.Sprintf(" %d, lacks %d", api.ErrForm, lacks)
	}
	return fmt.Sprintf("%x 0, lacks %d", whole, lacks)
}

// asLarge gives the large object whose parts have these data, and whether there is one: it goes by the lengths.
func asLarge(s api.Spec, size int, data []string) (string, bool) {
	room := s.Data*size - 2
	if room < 1 {
		return "", false
	}
	whole := ""
	for i, text := range data {
		object, is := asObject(s, size, text)
		last := i == len(data)-1
		if !is || !last && len(object) < room || last && i > 0 && object == "" {
			return "", false
		}
		whole += object
	}
	return whole, true
}

// takes hands a sheet on, and looks at all that the inbox answers then.
func (y *tray) takes(t *testing.T, sheet string) api.Errno {
	t.Helper()
	want := y.should(sheet)
	if e := y.x.Take(sheet); e != want {
		t.Fatalf("P14: %v, size %d, with %x: Take(%.80x) = %d, want %d", y.s, y.size, y.in, sheet, e, want)
	}
	if want == api.OK {
		y.reports = y.shouldReport()
	}
	if got := report(y.x); got != y.reports {
		t.Fatalf("P15: %v, size %d, with %x: after Take(%.80x) it reports %s, want %s", y.s, y.size, y.in, sheet, got, y.reports)
	}
	return want
}

// trays: one that has taken nothing, one that has taken one sheet, one that has taken all.
func trays(t *testing.T, s api.Spec, size int, object string) []*tray {
	t.Helper()
	l := []*tray{newTray(), newTray(), newTray()}
	sheets := plainSheets(s, size, object)
	l[1].takes(t, sheets[len(sheets)-1])
	for _, sheet := range sheets {
		l[2].takes(t, sheet)
	}
	return l
}

// noSheet hands a text that is no sheet to each of these.
func noSheet(t *testing.T, l []*tray, text string) {
	t.Helper()
	for n, y := range l {
		if e := y.takes(t, text); e != api.ErrPacket {
			t.Fatalf("P14: inbox %d: the test takes %.60x for a sheet: %d", n, text, e)
		}
	}
}

func TestAnInboxThatHasTakenNothing(t *testing.T) {
	x := Open()
	if x == nil {
		t.Fatal("P14: Open gave nil")
	}
	if object, e := x.Whole(); object != "" || e != api.ErrOpen || x.Lacks() != -1 {
		t.Errorf("P15: Whole = %q, %d, Lacks = %d", object, e, x.Lacks())
	}
	if got := report(x); got != reportAtFirst {
		t.Errorf("P15: it reports %s", got)
	}
}

func TestInboxesWorkedOutByHand(t *testing.T) {
	two := spec(2, 2, 1, 0)
	at := func(part, parts, number int, piece string) string {
		return sheetOf(part, parts, packetOf(two, 2, number, piece))
	}
	tiny := func(parts, size int, piece string) string {
		return sheetOf(0, parts, packetOf(spec(1, 1, 1, 0), size, 1, piece))
	}
	for n, steps := range [][]struct {
		sheet string
		e     api.Errno
		said  string
	}{
		{
			// "ab", "c" from the data of one part and the spare pieces of the other
			{at(1, 2, 3, "c\x00"), api.OK, " 5, lacks 3"},
			{at(1, 2, 2, "c\x00"), api.OK, " 5, lacks 3"},
			{at(1, 2, 2, "c\x01"), api.ErrContrary, " 5, lacks 3"},
			{at(0, 2, 2, "c\x01"), api.OK, " 5, lacks 2"},
			{at(0, 2, 1, "ab"), api.OK, " 5, lacks 1"},
			{at(0, 2, 0, "\x02\x00"), api.ErrContrary, " 5, lacks 1"},
			{at(1, 3, 0, "\x01\x00"), api.ErrOther, " 5, lacks 1"},
			{at(1, 2, 0, "\x00\x00"), api.OK, " 8, lacks 0"},
		},
		{
			{"", api.ErrPacket, reportAtFirst},
			{at(0, 1, 0, "\x00\x00"), api.OK, " 5, lacks 1"},
			{at(0, 1, 3, "\x00\x00"), api.OK, " 0, lacks 0"},
			{at(0, 1, 3, "\x00\x00"), api.OK, " 0, lacks 0"},
			{at(0, 1, 1, "\x01\x00"), api.ErrContrary, " 0, lacks 0"},
		},
		{
			{at(1, 2, 1, "c\x00"), api.OK, " 5, lacks 3"},
			{at(0, 2, 0, "\x02\x00"), api.OK, " 5, lacks 2"},
			{"S", api.ErrPacket, " 5, lacks 2"},
			{at(0, 2, 3, "cb"), api.OK, " 5, lacks 1"},
			{at(1, 2, 0, "\x01\x00"), api.OK, "616263 0, lacks 0"},
			{at(1, 2, 2, "bb"), api.ErrContrary, "616263 0, lacks 0"},
		},
		{
			// an empty last part beside others; a first one that is not full
			{at(0, 2, 0, "\x02\x00"), api.OK, " 5, lacks 3"},
			{at(0, 2, 1, "ab"), api.OK, " 5, lacks 2"},
			{at(1, 2, 0, "\x00\x00"), api.OK, " 5, lacks 1"},
			{at(1, 2, 1, "\x00\x00"), api.OK, " 8, lacks 0"},
		},
		{
			{at(0, 2, 0, "\x01\x00"), api.OK, " 5, lacks 3"},
			{at(0, 2, 1, "a\x00"), api.OK, " 5, lacks 2"},
			{at(1, 2, 0, "\x02\x00"), api.OK, " 5, lacks 1"},
			{at(1, 2, 1, "cd"), api.OK, " 8, lacks 0"},
		},
		{
			// a length of 3, where there is room for 2; open, as long as the other part is
			{at(0, 2, 0, "\x03\x00"), api.OK, " 5, lacks 3"},
			{at(0, 2, 1, "ab"), api.OK, " 5, lacks 2"},
			{at(1, 2, 0, "\x01\x00"), api.OK, " 5, lacks 1"},
			{at(1, 2, 1, "c\x00"), api.OK, " 8, lacks 0"},
		},
		{
			{tiny(1, 1, "\x00"), api.OK, " 8, lacks 0"},
		},
		{
			{tiny(1, 2, "\x00\x00"), api.OK, " 8, lacks 0"},
		},
		{
			{tiny(2, 2, "\x00\x00"), api.OK, " 5, lacks 1"},
			{tiny(1, 2, "\x00\x00"), api.ErrOther, " 5, lacks 1"},
		},
		{
			{tiny(1, 3, "\x00\x00\x00"), api.OK, " 0, lacks 0"},
		},
		{
			{tiny(1, 3, "\x01\x00\x00"), api.OK, "00 0, lacks 0"},
		},
		{
			{tiny(20, 3, "\x01\x00\x00"), api.OK, " 5, lacks 19"},
		},
	} {
		x := Open()
		for k, step := range steps {
			if e := x.Take(step.sheet); e != step.e {
				t.Errorf("P14: inbox %d, step %d: Take(%.80x) = %d, want %d", n, k, step.sheet, e, step.e)
			}
			if got := report(x); got != step.said {
				t.Errorf("P15: inbox %d, step %d: it reports %s, want %s", n, k, got, step.said)
			}
		}
	}
}

func TestSheetsOfAnotherLength(t *testing.T) {
	for _, size := range []int{1, 2, 16} {
		s := spec(3, 2, 1, 517)
		l := trays(t, s, size, "")
		sheets := plainSheets(s, size, "")
		for _, sheet := range []string{sheets[0], sheets[4], sheetOf(19, 20, sheets[0][3:])} {
			for n := 0; n < len(sheet); n++ {
				noSheet(t, l, sheet[:n])
				noSheet(t, l, sheet[n+1:])
				// sealed again, so that the length alone is wrong
				if n > 2 && n < len(sheet)-1 {
					noSheet(t, l, sheet[:3]+seal(sheet[3:n]))
				}
			}
			for _, more := range []string{"\x00", "\x00\x00", "S", sheet, strings.Repeat("\x00", 256), strings.Repeat("\x00", 65536), strings.Repeat("S", 9000000)} {
				noSheet(t, l, sheet+more)
				noSheet(t, l, sheet[:3]+seal(sheet[3:len(sheet)-1]+more))
				noSheet(t, l, more+sheet)
				noSheet(t, l, sheet[:3]+more+sheet[3:])
			}
		}
	}
	l := trays(t, spec(2, 2, 1, 0), 2, "abcde")
	for n := 0; n < 40; n++ {
		noSheet(t, l, strings.Repeat("\x00", n))
		noSheet(t, l, strings.Repeat("S", n))
		noSheet(t, l, "S\x00\x03"+strings.Repeat("R", n))
		noSheet(t, l, "S\x00\x03"+seal(strings.Repeat("\xff", n)))
	}
}

// Each byte of a sheet changed. In the packet that makes the sum another; ahead of it what it is then hangs on the byte.
func TestEveryByteOfASheetChanged(t *testing.T) {
	s := spec(3, 2, 1, 517)
	answers := map[api.Errno]int{}
	sheets := plainSheets(s, 2, "abcdefghijk")
	for _, sheet := range []string{sheets[0], sheets[7], sheets[len(sheets)-1]} {
		for i := 0; i < len(sheet); i++ {
			l := trays(t, s, 2, "abcdefghijk")
			for b := 0; b < 256; b++ {
				text := sheet[:i] + string([]byte{byte(b)}) + sheet[i+1:]
				if text == sheet {
					continue
				}
				if i == 0 || i > 2 {
					noSheet(t, l, text)
					continue
				}
				// What was taken at first would make all others another's.
				l[0] = newTray()
				for _, y := range l {
					answers[y.takes(t, text)]++
				}
			}
		}
	}
	for _, e := range []api.Errno{api.OK, api.ErrPacket, api.ErrOther, api.ErrContrary} {
		if answers[e] == 0 {
			t.Errorf("the answer %d never came", e)
		}
	}
}

// Each byte of the packet within a sheet changed, and the sum made right again. The piece's length is as it was, or as the size tells.
func TestEveryByteOfASheetChangedAndSealed(t *testing.T) {
	answers := map[api.Errno]int{}
	s := spec(3, 2, 1, 517)
	sheets := plainSheets(s, 2, "abcdef")
	for _, sheet := range []string{sheets[0], sheets[len(sheets)-1]} {
		open := sheet[3 : len(sheet)-1]
		for i := 0; i < len(open); i++ {
			l := trays(t, s, 2, "abcdef")
			for b := 0; b < 256; b++ {
				texts := []string{sheet[:3] + seal(open[:i]+string([]byte{byte(b)})+open[i+1:])}
				if i == 6 {
					texts = append(texts, sheet[:3]+seal(open[:6]+string([]byte{byte(b)})+open[7:8]+strings.Repeat("\x00", b)))
				}
				for _, text := range texts {
					l[0] = newTray()
					for _, y := range l {
						answers[y.takes(t, text)]++
					}
				}
			}
		}
	}
	for _, e := range []api.Errno{api.OK, api.ErrPacket, api.ErrOther, api.ErrContrary} {
		if answers[e] < 100 {
			t.Errorf("the answer %d came only %d times", e, answers[e])
		}
	}
}

// Every number of a part beside every number of parts: 1 to 20 parts may be, and below them each part.
func TestEveryNumberOfParts(t *testing.T) {
	two := spec(2, 2, 1, 0)
	packet := packetOf(two, 2, 0, "\x02\x00")
	taken := Open()
	takes(t, taken, sheetOf(3, 7, packet), api.OK)
	may := 0
	for parts := 0; parts < 256; parts++ {
		for part := 0; part < 256; part++ {
			x := Open()
			want, reports, other := api.ErrPacket, reportAtFirst, api.ErrPacket
			if parts >= 1 && parts <= 20 && part < parts {
				may++
				want, reports, other = api.OK, fmt.Sprintf(" 5, lacks %d", 2*parts-1), api.ErrOther
			}
			takes(t, x, sheetOf(part, parts, packet), want)
			if got := report(x); got != reports {
				t.Fatalf("P15: after a sheet of part %d of %d it reports %s, want %s", part, parts, got, reports)
			}
			if parts != 7 {
				takes(t, taken, sheetOf(part, parts, packet), other)
			}
		}
	}
	if got := report(taken); may != 210 || got != " 5, lacks 13" {
		t.Errorf("P14, P15: %d numbers may be; the inbox of 7 parts reports %s", may, got)
	}
}

// Packets that are none, within sheets that would be.
func TestSheetsOfNoPacket(t *testing.T) {
	l := trays(t, spec(2, 2, 1, 0), 2, "abcde")
	for _, s := range []api.Spec{
		spec(0, 2, 1, 0), spec(21, 2, 1, 0), spec(255, 2, 1, 0), spec(2, 0, 0, 0), spec(2, 0, 1, 0), spec(2, 21, 1, 0), spec(2, 255, 1, 0),
		spec(2, 2, 0, 0), spec(2, 2, 3, 0), spec(2, 2, 255, 0), spec(2, 20, 21, 0), spec(0, 0, 0, 0),
	} {
		noSheet(t, l, sheetOf(0, 3, packetOf(s, 2, 0, "\x00\x00")))
		noSheet(t, l, sheetOf(2, 3, packetOf(s, 2, 1, "\x00\x00")))
	}
	for _, size := range []int{0, 17, 18, 32, 255} {
		noSheet(t, l, sheetOf(0, 3, packetOf(spec(2, 2, 1, 0), size, 0, strings.Repeat("\x00", size))))
	}
	for _, number := range []int{4, 5, 40, 128, 255} {
		noSheet(t, l, sheetOf(0, 3, packetOf(spec(2, 2, 1, 0), 2, number, "\x00\x00")))
	}
	packet := packetOf(spec(2, 2, 1, 0), 2, 0, "\x02\x00")
	for b := 0; b < 256; b++ {
		if b != 'S' {
			noSheet(t, l, string([]byte{byte(b)})+sheetOf(0, 3, packet)[1:])
		}
		if b != 'R' {
			noSheet(t, l, sheetOf(0, 3, seal(string([]byte{byte(b)})+packet[1:len(packet)-1])))
		}
	}
	noSheet(t, l, packet)
	noSheet(t, l, sheetOf(0, 3, sheetOf(0, 3, packet)))
	// The bytes ahead of the packet have no part in its sum.
	noSheet(t, l, seal(sheetOf(0, 3, packet[:len(packet)-1])))
	// Every number that a specification has may be at its least and at its greatest, and so may the size.
	for n, s := range someSpecs() {
		size := 1 + n%16
		y := newTray()
		if e := y.takes(t, sheetOf(n%3, 3, packetOf(s, size, n%(s.Data+s.Spare), strings.Repeat("\x00", size)))); e != api.OK {
			t.Fatalf("P14: a sheet of %v: %d", s, e)
		}
	}
}

// Sheets of each other specification, size and number of parts; the pieces are noughts, which may be everywhere, or such that would be contrary.
func TestSheetsOfAnotherObject(t *testing.T) {
	s := spec(5, 4, 2, 0x0102)
	others := []api.Spec{
		spec(4, 4, 2, 0x0102), spec(6, 4, 2, 0x0102), spec(5, 3, 2, 0x0102), spec(5, 5, 2, 0x0102), spec(4, 5, 2, 0x0102), spec(6, 3, 2, 0x0102),
		spec(5, 4, 1, 0x0102), spec(5, 4, 3, 0x0102), spec(5, 4, 2, 0x0103), spec(5, 4, 2, 0x0202), spec(5, 4, 2, 0x0201), spec(5, 4, 2, 0), spec(5, 4, 2, 65535),
	}
	object := "abcdefghijklmnopqrs"
	is := func(y *tray, want api.Errno, sheet string) {
		t.Helper()
		if e := y.takes(t, sheet); e != want {
			t.Fatalf("P1, P14: Take(%x) = %d, want %d", sheet, e, want)
		}
	}
	for _, y := range trays(t, s, 2, object)[1:] {
		for part := 0; part < 3; part++ {
			for _, other := range others {
				for number := 0; number < other.Data+other.Spare; number++ {
					is(y, api.ErrOther, sheetOf(part, 3, packetOf(other, 2, number, "\x00\x00")))
					is(y, api.ErrOther, sheetOf(part, 3, packetOf(other, 2, number, "zz")))
				}
			}
			for size := 1; size <= 16; size++ {
				if size != 2 {
					is(y, api.ErrOther, sheetOf(part, 3, packetOf(s, size, 3, strings.Repeat("\x00", size))))
				}
			}
			for parts := part + 1; parts <= 20; parts++ {
				if parts != 3 {
					is(y, api.ErrOther, sheetOf(part, parts, packetOf(s, 2, 3, "\x00\x00")))
					is(y, api.ErrOther, sheetOf(part, parts, packetOf(s, 2, 8, "zz")))
				}
			}
			// No sheet at all, though of another specification; and another one's, though contrary.
			is(y, api.ErrPacket, sheetOf(part, 3, packetOf(others[0], 2, 3, "zz"))+"\x00")
			is(y, api.ErrPacket, sheetOf(part, part, packetOf(others[0], 2, 3, "zz")))
			is(y, api.ErrOther, sheetOf(part, 3, packetOf(spec(3, 3, 1, 0), 2, 3, "zz")))
		}
		for _, sheet := range plainSheets(s, 2, object) {
			is(y, api.OK, sheet)
		}
		if want := fmt.Sprintf("%x 0, lacks 0", object); y.reports != want {
			t.Errorf("P15: after all that it reports %s, want %s", y.reports, want)
		}
	}
}

// A piece that is noughts in every word can be contrary ahead of all others: it settles nothing.
func TestAContraryFirstSheet(t *testing.T) {
	never := 0
	for n, s := range someSpecs() {
		size := 1 + n%16
		b := newBox(t, s, size)
		parts := 1 + n%20
		for i := s.Data; i < s.Data+s.Spare; i++ {
			if _, e := b.Get(i); e != api.OK {
				continue
			}
			never++
			x := Open()
			wrong := strings.Repeat("\x00", size-1) + "\x80"
			for part := 0; part < parts; part++ {
				takes(t, x, sheetOf(part, parts, packetOf(s, size, i, wrong)), api.ErrContrary)
				if got := report(x); got != reportAtFirst {
					t.Fatalf("P14, P15: after a contrary first sheet of %v it reports %s", s, got)
				}
			}
			if n%2 == 0 {
				for _, sheet := range plainSheets(spec(2, 2, 1, 0), 2, "abc") {
					takes(t, x, sheet, api.OK)
				}
				if got := report(x); got != "616263 0, lacks 0" {
					t.Fatalf("P14, P15: after a contrary first sheet of %v, and another object's, it reports %s", s, got)
				}
				continue
			}
			takes(t, x, sheetOf(parts-1, parts, packetOf(s, size, i, strings.Repeat("\x00", size))), api.OK)
			if got, want := report(x), fmt.Sprintf(" 5, lacks %d", parts*s.Data); got != want {
				t.Fatalf("P14, P15: an inbox of %v with noughts reports %s, want %s", s, got, want)
			}
			// It is contrary in a part of which nothing was taken, too.
			takes(t, x, sheetOf(0, parts, packetOf(s, size, i, wrong)), api.ErrContrary)
			takes(t, x, sheetOf(parts-1, parts, packetOf(s, size, i, wrong)), api.ErrContrary)
		}
	}
	if never < 100 {
		t.Errorf("only %d such pieces were tried", never)
	}
}

// Whatever was taken of the other parts, of a part nothing follows and nothing is contrary.
func TestPartsSayNothingOfOneAnother(t *testing.T) {
	s := spec(3, 2, 1, 517)
	for parts := 2; parts <= 20; parts++ {
		for _, part := range []int{0, parts / 2, parts - 1} {
			room := s.Data*2 - 2
			objects := make([]string, parts)
			for i := range objects {
				objects[i] = someText(room, i+parts)
			}
			x := Open()
			for i, sheet := range sheetsOfParts(s, 2, objects) {
				if i/5 != part {
					takes(t, x, sheet, api.OK)
				}
			}
			if got := report(x); got != " 5, lacks 3" {
				t.Fatalf("P15: without part %d of %d it reports %s", part, parts, got)
			}
			// The packets of each other part fit there, if they come alone.
			other := (part + 1) % parts
			l := packetsOf(s, fullWord(s, cut(dataText(s, 2, objects[other]), 2)))
			for i, packet := range l {
				takes(t, x, sheetOf(part, parts, packet), api.OK)
				if i < 2 && x.Lacks() != 2-i {
					t.Fatalf("P15: with %d sheets of part %d Lacks = %d", i+1, part, x.Lacks())
				}
			}
			objects[part] = objects[other]
			if got, want := report(x), fmt.Sprintf("%x 0, lacks 0", strings.Join(objects, "")); got != want {
				t.Fatalf("P15: with part %d of %d it reports %s, want %s", part, parts, got, want)
			}
			// What it was at first is contrary now.
			takes(t, x, sheetOf(part, parts, packetOf(s, 2, 2, someText(2, 77))), api.ErrContrary)
		}
	}
}

// spoiltSheet makes a text from a sheet that is to be refused, or at least is another sheet.
func spoiltSheet(r *rand.Rand, s api.Spec, size int, sheet string) string {
	part, parts, packet := int(sheet[1]), int(sheet[2]), sheet[3:]
	switch r.Intn(7) {
	case 0:
		return sheet[:r.Intn(len(sheet))]
	case 1:
		return sheetOf(parts, parts, packet)
	case 2:
		return sheetOf(part, 1+part+r.Intn(20-part), packet)
	case 3:
		return sheetOf(r.Intn(parts), parts, packet)
	case 4:
		return packet
	}
	return sheetOf(part, parts, spoilt(r, s, size, packet))
}

// The sheets of a large object in any order, some twice, some never, and between them such as are refused.
func TestSheetsInAnyOrderAndTwice(t *testing.T) {
	r := rand.New(rand.NewSource(11))
	specs := someSpecs()
	answers := map[api.Errno]int{}
	whole := 0
	for round := 0; round < 120; round++ {
		s := specs[r.Intn(len(specs))]
		size := 1 + r.Intn(16)
		room := s.Data*size - 2
		if room < 1 {
			continue
		}
		parts := 1 + r.Intn(4)
		if round%20 == 0 {
			parts = 20
		}
		object := someText((parts-1)*room+1+r.Intn(room), round)
		sheets := mail(t, s, size, object, r.Intn(65536))
		if len(sheets) != parts*(s.Data+s.Spare) {
			t.Fatalf("P13: %d sheets of %d parts of %v", len(sheets), parts, s)
		}
		order := append(r.Perm(len(sheets)), r.Perm(len(sheets))[:len(sheets)/4]...)
		r.Shuffle(len(order), func(a, b int) { order[a], order[b] = order[b], order[a] })
		if round%3 == 0 {
			order = order[:r.Intn(len(order))]
		}
		y := newTray()
		for _, i := range order {
			// Before a first sheet is taken, any that is another's would settle the matter.
			if y.in != nil && r.Intn(3) == 0 {
				text := spoiltSheet(r, s, size, sheets[r.Intn(len(sheets))])
				// Where nothing contradicts it, a wrong sheet would be taken.
				copied := &tray{s: y.s, size: y.size, in: append([]map[int]string(nil), y.in...), follows: append([]string(nil), y.follows...)}
				if copied.should(text) != api.OK {
					answers[y.takes(t, text)]++
				}
			}
			if e := y.takes(t, sheets[i]); e != api.OK {
				t.Fatalf("P14: %v: the sheet %x of %x: %d", s, sheets[i], object, e)
			}
			answers[api.OK]++
		}
		got, e := y.x.Whole()
		if e == api.OK {
			whole++
			if got != object || y.x.Lacks() != 0 {
				t.Fatalf("P15: %v: Whole = %x, Lacks = %d, want %x", s, got, y.x.Lacks(), object)
			}
		} else if round%3 != 0 {
			t.Fatalf("P15: %v: with all sheets Whole = %x, %d", s, got, e)
		}
	}
	for _, e := range []api.Errno{api.OK, api.ErrPacket, api.ErrOther, api.ErrContrary} {
		if answers[e] < 100 {
			t.Errorf("the answer %d came only %d times", e, answers[e])
		}
	}
	if whole < 60 {
		t.Errorf("only %d objects came through", whole)
	}
}

// Sheets of mixed pieces, right and wrong, taken where they may be: all sorts of parts come out.
func TestMixedSheets(t *testing.T) {
	r := rand.New(rand.NewSource(12))
	specs := []api.Spec{spec(1, 1, 1, 0), spec(1, 3, 2, 4), spec(2, 2, 1, 0), spec(3, 3, 1, 0), spec(3, 4, 2, 65535)}
	results := map[api.Errno]int{}
	for round := 0; round < 600; round++ {
		s := specs[r.Intn(len(specs))]
		size := 1 + r.Intn(3)
		parts := 1 + r.Intn(2)
		y := newTray()
		for n := 0; n < 2*parts*(s.Data+s.Spare); n++ {
			piece := make([]byte, size)
			for k := range piece {
				piece[k] = byte(r.Intn(3) / 2)
			}
			y.takes(t, sheetOf(r.Intn(parts), parts, packetOf(s, size, r.Intn(s.Data+s.Spare), string(piece))))
			_, e := y.x.Whole()
			results[e]++
		}
	}
	for _, e := range []api.Errno{api.OK, api.ErrOpen, api.ErrForm} {
		if results[e] < 100 {
			t.Errorf("the result %d came only %d times", e, results[e])
		}
	}
}

// filled makes an inbox that has the data of each part, from the sheets of the data or from those behind them.
func filled(t *testing.T, s api.Spec, size int, data []string, salt int) *Inbox {
	t.Helper()
	x := Open()
	for part := range data {
		packets := packetsOf(s, fullWord(s, cut(data[part], size)))
		for n := range packets {
			i := n
			if (salt+part)%2 == 1 {
				i = len(packets) - 1 - n
			}
			takes(t, x, sheetOf(part, len(data), packets[i]), api.OK)
		}
	}
	return x
}

// gathered looks at what Whole makes of the data of some parts.
func gathered(t *testing.T, s api.Spec, size int, data []string, salt int) api.Errno {
	t.Helper()
	x := filled(t, s, size, data, salt)
	want, is := asLarge(s, size, data)
	wantE := api.OK
	if !is {
		wantE = api.ErrForm
	}
	if object, e := x.Whole(); object != want || e != wantE || x.Lacks() != 0 {
		t.Fatalf("P15: %v, size %d: of %x Whole = %x, %d, Lacks = %d, want %x, %d", s, size, data, object, e, x.Lacks(), want, wantE)
	}
	return wantE
}

// All lists of some objects: only the last may be not full, and it is empty only if it is the only one.
func TestObjectsThatAreNoParts(t *testing.T) {
	for _, c := range []struct {
		s    api.Spec
		size int
	}{{spec(2, 2, 1, 0), 2}, {spec(3, 2, 1, 3), 1}, {spec(1, 1, 1, 65535), 5}, {spec(20, 20, 20, 1), 16}} {
		room := c.s.Data*c.size - 2
		var objects []string
		for length := 0; length <= room; length++ {
			if length <= 1 || length >= room-1 {
				objects = append(objects, someText(length, length+1))
			}
		}
		parts := [][]string{{}}
		for count := 1; count <= 3; count++ {
			var longer [][]string
			for _, l := range parts {
				for _, object := range objects {
					longer = append(longer, append(append([]string(nil), l...), object))
				}
			}
			parts = longer
			for n, l := range parts {
				data := make([]string, count)
				full := true
				for i, object := range l {
					data[i] = dataText(c.s, c.size, object)
					full = full && (i == count-1 || len(object) == room)
				}
				want := api.ErrForm
				if full && (l[count-1] != "" || count == 1) {
					want = api.OK
				}
				if e := gathered(t, c.s, c.size, data, n); e != want {
					t.Fatalf("the test takes %x for %d", l, e)
				}
			}
		}
	}
}

// Of 20 parts, each in turn is one byte short, empty, or the data of no object.
func TestOneOfManyPartsIsWrong(t *testing.T) {
	s, size := spec(3, 2, 1, 517), 2
	for _, count := range []int{1, 2, 19, 20} {
		for at := 0; at < count; at++ {
			for n, wrong := range []string{"\x04\x00abcd", "\x03\x00abc\x00", "\x00\x00\x00\x00\x00\x00", "\x05\x00abcd", "\x03\x00abcd", "\x04\x01abcd", "\x00\x00\x00\x00\x00a", "\xff\xff\xff\xff\xff\xff"} {
				data := make([]string, count)
				for i := range data {
					data[i] = dataText(s, size, someText(4, i))
				}
				data[at] = wrong
				want := api.ErrForm
				if n == 0 || n == 1 && at == count-1 || n == 2 && count == 1 {
					want = api.OK
				}
				if e := gathered(t, s, size, data, n+at); e != want {
					t.Fatalf("the test takes %x for %d", data, e)
				}
			}
		}
	}
}

// Where K * size is below 3 sheets are taken, but nothing is a large object's.
func TestNoRoomForParts(t *testing.T) {
	for _, c := range []struct {
		s    api.Spec
		size int
	}{{spec(1, 1, 1, 0), 1}, {spec(1, 20, 3, 65535), 1}, {spec(1, 1, 1, 0), 2}, {spec(1, 4, 2, 7), 2}, {spec(2, 2, 1, 0), 1}, {spec(2, 20, 20, 65535), 1}} {
		for _, count := range []int{1, 2, 20} {
			for n, b := range []string{"\x00", "\x01", "\xff"} {
				data := make([]string, count)
				for i := range data {
					data[i] = strings.Repeat(b, c.s.Data*c.size)
				}
				if e := gathered(t, c.s, c.size, data, n); e != api.ErrForm {
					t.Errorf("the test takes %x for %d", data, e)
				}
			}
			// Open, as long as one part is.
			y := newTray()
			zero := strings.Repeat("\x00", c.size)
			for part := 0; part < count; part++ {
				for i := 0; i < c.s.Data; i++ {
					y.takes(t, sheetOf(part, count, packetOf(c.s, c.size, i, zero)))
				}
			}
			if y.reports != " 8, lacks 0" {
				t.Errorf("P15: %v, size %d, %d parts: it reports %s", c.s, c.size, count, y.reports)
			}
		}
	}
	// One byte more, and there is room.
	for _, c := range []struct {
		s    api.Spec
		size int
	}{{spec(1, 1, 1, 0), 3}, {spec(3, 2, 1, 0), 1}} {
		for _, object := range []string{"", "a", "ab", someText(20, 5)} {
			var data []string
			for _, part := range partsOf(c.s, c.size, object) {
				data = append(data, dataText(c.s, c.size, part))
			}
			if e := gathered(t, c.s, c.size, data, len(object)); e != api.OK {
				t.Errorf("the test takes %x for %d", data, e)
			}
		}
	}
}

// What the parts are does not matter as long as a piece of data of one of them is open: the first, the last or one between.
func TestOpenComesBeforeFormInParts(t *testing.T) {
	s := spec(4, 3, 1, 2)
	for _, count := range []int{1, 2, 3, 20} {
		for _, missing := range []int{0, 4*count/2 - 1, 4*count - 1} {
			x := Open()
			for n := 0; n < 4*count; n++ {
				if n != missing {
					takes(t, x, sheetOf(n/4, count, packetOf(s, 2, n%4, "\xff\xff")), api.OK)
				}
			}
			if got := report(x); got != " 5, lacks 1" {
				t.Errorf("P1, P15: of %d parts, without %d: it reports %s", count, missing, got)
			}
			takes(t, x, sheetOf(missing/4, count, packetOf(s, 2, missing%4, "\xff\xff")), api.OK)
			if got := report(x); got != " 8, lacks 0" {
				t.Errorf("P1, P15: of %d parts, with all: it reports %s", count, got)
			}
		}
	}
}

// Large objects come through, in the order in which Mail gives them, from the least of sheets that tell all.
func TestLargeObjectsComeThrough(t *testing.T) {
	for n, s := range someSpecs() {
		size := 1 + n%16
		room := s.Data*size - 2
		if room < 1 {
			continue
		}
		length := []int{0, 1, room, room + 1, 2*room - 1, 3 * room, n % (4 * room)}[n%7]
		if n%100 == 0 {
			length = 20*room - n%200/100
		}
		object := someText(length, n)
		if n%11 == 0 {
			object = strings.Repeat("\x00", length)
		}
		parts := max(1, (length+room-1)/room)
		x := Open()
		boxes := make([]*Box, parts)
		for i := range boxes {
			boxes[i] = newBox(t, s, size)
		}
		lacks := parts * s.Data
		for _, sheet := range mail(t, s, size, object, n*29) {
			b, number := boxes[sheet[1]], int(sheet[10])
			if _, e := b.Get(number); e == api.OK {
				continue
			}
			b.Put(number, sheet[11:11+size])
			takes(t, x, sheet, api.OK)
			lacks--
			if x.Lacks() != lacks {
				t.Fatalf("P15: %v: Lacks = %d, want %d", s, x.Lacks(), lacks)
			}
			if got, e := x.Whole(); lacks > 0 && (got != "" || e != api.ErrOpen) {
				t.Fatalf("P15: %v: Whole = %x, %d, while %d are lacking", s, got, e, lacks)
			}
		}
		if got, want := report(x), fmt.Sprintf("%x 0, lacks 0", object); got != want || lacks != 0 {
			t.Fatalf("P15: %v, size %d: it reports %s, want %s", s, size, got, want)
		}
	}
}

// Inboxes of one large object, of another one of the same specification, and of others, that take in turn.
func TestInboxesDoNotTouchOneAnother(t *testing.T) {
	specs := []api.Spec{spec(4, 5, 2, 10), spec(4, 5, 2, 10), spec(4, 5, 2, 11), spec(9, 3, 1, 0), spec(20, 20, 5, 65535)}
	sizes := []int{2, 2, 2, 1, 16}
	objects := []string{"the first one", "the second one", "the first one", "the third one is longer", "the fourth one"}
	l := make([]*tray, len(specs))
	sheets := make([][]string, len(specs))
	for n, s := range specs {
		l[n] = newTray()
		sheets[n] = mail(t, s, sizes[n], objects[n], n)
	}
	r := rand.New(rand.NewSource(13))
	for round := 0; round < 300; round++ {
		n := r.Intn(len(l))
		l[n].takes(t, sheets[n][r.Intn(len(sheets[n]))])
		l[n].takes(t, sheets[n][0][1:])
		if l[n].in != nil {
			other := (n + 2) % len(l)
			l[n].takes(t, sheets[other][r.Intn(len(sheets[other]))])
		}
		Open().Take(sheets[n][0])
		for m, y := range l {
			if got := report(y.x); got != y.reports {
				t.Fatalf("P2: after inbox %d has taken, inbox %d reports %s, want %s", n, m, got, y.reports)
			}
		}
	}
	for n, y := range l {
		for _, sheet := range sheets[n] {
			y.takes(t, sheet)
		}
		if want := fmt.Sprintf("%x 0, lacks 0", objects[n]); y.reports != want {
			t.Errorf("P15: inbox %d reports %s, want %s", n, y.reports, want)
		}
	}
}

// What is known about words, boxes and catchers stays the same, whatever was mailed and taken.
func TestTheOtherCallsBesideInboxes(t *testing.T) {
	s := spec(5, 4, 2, 31)
	object := "some object that is in parts"
	sheets := plainSheets(s, 3, object)
	part := partsOf(s, 3, object)[0]
	word := fullWord(s, cut(dataText(s, 3, part), 3))
	x, y, b := Open(), newEar(), newBox(t, s, 3)
	in := map[int]string{}
	for i := len(word) - 1; i >= 0; i-- {
		takes(t, x, sheets[i], api.OK)
		x.Take(sheets[i][:5])
		mail(t, s, 3, "another", i)
		y.hears(t, sheets[i][3:])
		y.hears(t, sheets[i])
		if e := b.Put(i, word[i]); e != api.OK {
			t.Errorf("P7: beside an inbox Put(%d, %x) = %d", i, word[i], e)
		}
		in[i] = word[i]
		if got, _ := unknowns(s, 3, in); tell(b, s) != got {
			t.Errorf("P8, P9: beside an inbox the box tells %s, want %s", tell(b, s), got)
		}
		if rows, e := Rows(s); e != api.OK || !reflect.DeepEqual(rows, expectedRows(s)) {
			t.Errorf("P3: beside an inbox Rows(%v) = %v, %d", s, rows, e)
		}
		if spare, e := Spare(s, word[:5]); e != api.OK || !reflect.DeepEqual(spare, word[5:]) {
			t.Errorf("P4: beside an inbox Spare(%v) = %x, %d", s, spare, e)
		}
		if fits, e := Fits(s, word); !fits || e != api.OK {
			t.Errorf("P5: beside an inbox Fits(%v) = %v, %d", s, fits, e)
		}
		if b, e := New(s, 17); b != nil || e != api.ErrArg {
			t.Errorf("P6: beside an inbox New(%v, 17) = %v, %d", s, b, e)
		}
		if l, e := Send(s, 3, part); e != api.OK || !reflect.DeepEqual(l, packetsOf(s, word)) {
			t.Errorf("P10: beside an inbox Send = %x, %d", l, e)
		}
		if c := Listen(); say(c) != saidAtFirst {
			t.Errorf("P11, P12: beside an inbox a new catcher says %s", say(c))
		}
	}
	if got, want := say(y.c), fmt.Sprintf("%x 0, wants 0", part); got != want {
		t.Errorf("P12: beside an inbox the catcher says %s, want %s", got, want)
	}
	if got, want := report(x), fmt.Sprintf(" 5, lacks %d", 5*(len(partsOf(s, 3, object))-1)); got != want {
		t.Errorf("P15: beside the others the inbox reports %s, want %s", got, want)
	}
}
