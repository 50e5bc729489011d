package large

import (
	"refill/api"
	"refill/box"
	"refill/objects"
)

// Inbox takes sheets of one large object (P14). The zero value has taken nothing.
type Inbox struct {
	// parts is 0 as long as no sheet was taken: what stands below means something only then.
	parts int
	spec  api.Spec
	size  int
	// held has a box for each part, also for one of which no sheet was taken yet.
	held [api.MaxParts]box.Box
}

// Take takes a sheet, or turns it down and stays as it is (P14).
func (x *Inbox) Take(text string) api.Errno {
	s, ok := read(text)
	if !ok {
		return api.ErrPacket
	}
	if x.parts == 0 {
		return x.first(s)
	}
	return x.next(s)
}

// first takes the sheet that settles the specification, the size and the number of parts. They are settled only once it is taken, for even a first piece can be contrary.
func (x *Inbox) first(s sheet) api.Errno {
	empty, e := box.New(s.packet.Spec, s.packet.Size)
	if e != api.OK {
		return e
	}
	settled := Inbox{parts: s.parts, spec: s.packet.Spec, size: s.packet.Size}
	for i := 0; i < settled.parts; i++ {
		settled.held[i] = empty
	}
	e = settled.next(s)
	if e != api.OK {
		return e
	}
	*x = settled
	return api.OK
}

// next takes a sheet where the specification, the size and the number of parts are settled.
func (x *Inbox) next(s sheet) api.Errno {
	p := s.packet
	if p.Spec != x.spec || p.Size != x.size || s.parts != x.parts {
		return api.ErrOther
	}
	return x.held[s.part].Put(p.Number, p.Piece)
}

// Whole gives the large object (P15).
func (x *Inbox) Whole() (string, api.Errno) {
	if x.parts == 0 {
		return "", api.ErrOpen
	}
	// The data of all parts come ahead of the objects in them: while one is open, it does not matter what the others are.
	data, e := x.data()
	if e != api.OK {
		return "", e
	}
	room := objects.Room(x.spec.Data, x.size)
	return joined(data, room)
}

// data gives the data of each part; ErrOpen, if those of one do not follow.
func (x *Inbox) data() ([]string, api.Errno) {
	all := make([]string, 0, api.MaxParts)
	for i := 0; i < x.parts; i++ {
		data, e := x.held[i].Data()
		if e != api.OK {
			return nil, e
		}
		all = append(all, data)
	}
	return all, api.OK
}

// joined gives the large object whose parts have these data; ErrForm, if there is none.
func joined(data []string, room int) (string, api.Errno) {
	if room < 1 {
		return "", api.ErrForm
	}
	parts := make([]string, 0, len(data))
	whole := make([]byte, 0, len(data)*room)
	for _, d := range data {
		part, e := objects.Read(d)
		if e != api.OK {
			return "", e
		}
		parts = append(parts, part)
		whole = append(whole, part...)
	}
	object := string(whole)
	// They are the parts of a large object just if it is cut into them again.
	again := cut(object, room)
	if !same(again, parts) {
		return "", api.ErrForm
	}
	return object, api.OK
}

// same tells whether two lists have the same texts in the same order.
func same(a, b []string) bool {
	if len(a) != len(b) {
		return false
	}
	for i := range a {
		if a[i] != b[i] {
			return false
		}
	}
	return true
}

// Lacks tells how many more sheets it takes at least (P15).
func (x *Inbox) Lacks() int {
	if x.parts == 0 {
		return -1
	}
	lacks := 0
	for i := 0; i < x.parts; i++ {
		lacks += x.held[i].Need()
	}
	return lacks
}
