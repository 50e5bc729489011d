// Package large turns large objects into sheets, and sheets into large objects.
package large

import (
	"refill/api"
	"refill/draw"
	"refill/objects"
	"refill/word"
)

// Mail makes the sheets of a large object, in an order that is drawn (P13).
func Mail(s api.Spec, size int, object string, order int) ([]string, api.Errno) {
	if !word.MayBe(s) {
		return nil, api.ErrSpec
	}
	if size < 1 || size > api.MaxSize {
		return nil, api.ErrArg
	}
	// An order is drawn from as a seed is, so it has the same bounds.
	if order < 0 || order > api.MaxSeed {
		return nil, api.ErrArg
	}
	room := objects.Room(s.Data, size)
	if room < 1 || len(object) > api.MaxParts*room {
		return nil, api.ErrShape
	}
	parts := cut(object, room)
	sheets, e := sheetsOf(s, size, parts)
	if e != api.OK {
		return nil, e
	}
	return shuffled(sheets, order), api.OK
}

// cut makes the parts of a large object. They have a byte or more each, but the empty text has an empty part.
func cut(object string, room int) []string {
	parts := make([]string, 0, api.MaxParts)
	// With no room it would never come to an end.
	for room > 0 && len(object) > room {
		parts = append(parts, object[:room])
		object = object[room:]
	}
	return append(parts, object)
}

// sheetsOf makes the sheets of the parts, one part after the other.
func sheetsOf(s api.Spec, size int, parts []string) ([]string, api.Errno) {
	sheets := make([]string, 0, len(parts)*(s.Data+s.Spare))
	for i, part := range parts {
		packets, e := objects.Send(s, size, part)
		if e != api.OK {
			return nil, e
		}
		for _, packet := range packets {
			text := textOf(i, len(parts), packet)
			sheets = append(sheets, text)
		}
	}
	return sheets, api.OK
}

// shuffled gives the sheets in the order that is drawn.
func shuffled(sheets []string, order int) []string {
	mixed := make([]string, 0, len(sheets))
	mixed = append(mixed, sheets...)
	drawer := draw.From(order)
	for i := len(mixed) - 1; i > 0; i-- {
		d := drawer.Below(i + 1)
		last := mixed[i]
		mixed[i] = mixed[d]
		mixed[d] = last
	}
	return mixed
}
