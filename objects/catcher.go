package objects

import (
	"refill/api"
	"refill/box"
	"refill/packet"
)

// Catcher hears packets of one object (P11). The zero value has heard nothing.
type Catcher struct {
	// taken tells whether a packet was taken: what stands below means something only then.
	taken bool
	spec  api.Spec
	size  int
	held  box.Box
}

// Hear takes a packet, or turns it down and stays as it is (P11).
func (c *Catcher) Hear(text string) api.Errno {
	p, ok := packet.Read(text)
	if !ok {
		return api.ErrPacket
	}
	if c.taken {
		return c.next(p)
	}
	return c.first(p)
}

// first takes the packet that settles the specification and the size. They are settled only once it is taken, for even a first piece can be contrary.
func (c *Catcher) first(p packet.Packet) api.Errno {
	held, e := box.New(p.Spec, p.Size)
	if e != api.OK {
		return e
	}
	e = held.Put(p.Number, p.Piece)
	if e != api.OK {
		return e
	}
	*c = Catcher{taken: true, spec: p.Spec, size: p.Size, held: held}
	return api.OK
}

// next takes a packet beside those that were taken.
func (c *Catcher) next(p packet.Packet) api.Errno {
	if p.Spec != c.spec || p.Size != c.size {
		return api.ErrOther
	}
	return c.held.Put(p.Number, p.Piece)
}

// Object gives the object (P12).
func (c *Catcher) Object() (string, api.Errno) {
	if !c.taken {
		return "", api.ErrOpen
	}
	data, e := c.held.Data()
	if e != api.OK {
		return "", e
	}
	return Read(data)
}

// Wants tells how many more packets it takes at least (P12).
func (c *Catcher) Wants() int {
	if !c.taken {
		return -1
	}
	return c.held.Need()
}
