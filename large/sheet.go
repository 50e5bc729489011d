package large

import (
	"refill/api"
	"refill/packet"
)

const (
	mark = 'S'
	// head is the number of bytes ahead of the packet.
	head = 3
)

// sheet is a packet, and of which part of how many it is.
type sheet struct {
	part, parts int
	packet      packet.Packet
}

// textOf makes the text of a sheet, around that of its packet. There must be such a part.
func textOf(part, parts int, inner string) string {
	return string([]byte{mark, byte(part), byte(parts)}) + inner
}

// read gives the sheet that a text is, and whether it is one.
func read(text string) (sheet, bool) {
	if len(text) < head || text[0] != mark {
		return sheet{}, false
	}
	part, parts := int(text[1]), int(text[2])
	// No part is below 0, so this turns down that there are 0 parts, too.
	if parts > api.MaxParts || part >= parts {
		return sheet{}, false
	}
	p, ok := packet.Read(text[head:])
	if !ok {
		return sheet{}, false
	}
	return sheet{part: part, parts: parts, packet: p}, true
}
