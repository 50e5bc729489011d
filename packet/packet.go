// Package packet turns pieces into packets, and packets into pieces.
package packet

import (
	"refill/api"
	"refill/word"
)

const (
	mark = 'R'
	// head is the number of bytes ahead of the piece.
	head = 8
)

// Packet is a piece, and what it needs to be put in anywhere.
type Packet struct {
	Spec         api.Spec
	Size, Number int
	Piece        string
}

// Text makes the text of a packet. The packet must be one that may be.
func Text(p Packet) string {
	s := p.Spec
	text := make([]byte, 0, head+api.MaxSize+1)
	text = append(text, mark, byte(s.Data), byte(s.Spare), byte(s.Ones))
	text = append(text, byte(s.Seed%256), byte(s.Seed/256))
	text = append(text, byte(p.Size), byte(p.Number))
	text = append(text, p.Piece...)
	// In a byte 256 is 0 again, so what is missing to it is the negative of the sum.
	check := -total(string(text))
	text = append(text, check)
	return string(text)
}

// Read gives the packet that a text is, and whether it is one.
func Read(text string) (Packet, bool) {
	if len(text) < head || text[0] != mark {
		return Packet{}, false
	}
	s := api.Spec{Data: int(text[1]), Spare: int(text[2]), Ones: int(text[3]), Seed: int(text[4]) + 256*int(text[5])}
	size, number := int(text[6]), int(text[7])
	if !word.MayBe(s) || size < 1 || size > api.MaxSize || number >= s.Data+s.Spare {
		return Packet{}, false
	}
	// The length comes ahead of the sum, so that a long text costs no more than a short one.
	if len(text) != head+size+1 || total(text) != 0 {
		return Packet{}, false
	}
	return Packet{Spec: s, Size: size, Number: number, Piece: text[head : head+size]}, true
}

// total adds up the bytes of a text, modulo 256.
func total(text string) byte {
	var sum byte
	for i := 0; i < len(text); i++ {
		sum += text[i]
	}
	return sum
}
