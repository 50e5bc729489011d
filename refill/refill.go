// Package refill: objects sent in pieces of which some may be lost: see DOC.md.
package refill

import (
	"refill/api"
	"refill/box"
	"refill/large"
	"refill/objects"
	"refill/word"
)

// Box holds pieces, and what follows from them.
type Box struct {
	held box.Box
}

// Catcher hears packets.
type Catcher struct {
	heard objects.Catcher
}

// Inbox takes sheets.
type Inbox struct {
	taken large.Inbox
}

// Rows tells which pieces sum to nought (P3).
func Rows(s api.Spec) ([][]int, api.Errno) { return word.Rows(s) }

// Spare makes the sums beside some data (P4).
func Spare(s api.Spec, data []string) ([]string, api.Errno) { return word.Spare(s, data) }

// Fits tells whether pieces are a word (P5).
func Fits(s api.Spec, pieces []string) (bool, api.Errno) { return word.Fits(s, pieces) }

// New makes an empty box (P6).
func New(s api.Spec, size int) (*Box, api.Errno) {
	empty, e := box.New(s, size)
	if e != api.OK {
		return nil, e
	}
	return &Box{held: empty}, api.OK
}

// Put puts a piece in (P7).
func (b *Box) Put(i int, piece string) api.Errno { return b.held.Put(i, piece) }

// Get gives a piece that follows (P8).
func (b *Box) Get(i int) (string, api.Errno) { return b.held.Get(i) }

// Need tells how many more pieces it takes at least (P9).
func (b *Box) Need() int { return b.held.Need() }

// Send makes the packets of an object (P10).
func Send(s api.Spec, size int, object string) ([]string, api.Errno) {
	return objects.Send(s, size, object)
}

// Listen makes a catcher that has heard nothing (P11).
func Listen() *Catcher { return &Catcher{} }

// Hear takes what arrives (P11).
func (c *Catcher) Hear(packet string) api.Errno { return c.heard.Hear(packet) }

// Object gives the object (P12).
func (c *Catcher) Object() (string, api.Errno) { return c.heard.Object() }

// Wants tells how many more packets it takes at least (P12).
func (c *Catcher) Wants() int { return c.heard.Wants() }

// Mail makes the sheets of a large object, in an order that is drawn (P13).
func Mail(s api.Spec, size int, object string, order int) ([]string, api.Errno) {
	return large.Mail(s, size, object, order)
}

// Open makes an inbox that has taken nothing (P14).
func Open() *Inbox { return &Inbox{} }

// Take takes a sheet (P14).
func (x *Inbox) Take(sheet string) api.Errno { return x.taken.Take(sheet) }

// Whole gives the large object (P15).
func (x *Inbox) Whole() (string, api.Errno) { return x.taken.Whole() }

// Lacks tells how many more sheets it takes at least (P15).
func (x *Inbox) Lacks() int { return x.taken.Lacks() }
