// Package objects turns objects into packets, and packets into objects.
package objects

import (
	"refill/api"
	"refill/packet"
	"refill/word"
)

// lengthBytes is the number of bytes that tell an object's length.
const lengthBytes = 2

// Room gives the length of the longest object that has so many pieces of data of this size; it is below 0, where there is none.
func Room(count, size int) int {
	return count*size - lengthBytes
}

// Send makes the packets of an object (P10).
func Send(s api.Spec, size int, object string) ([]string, api.Errno) {
	if !word.MayBe(s) {
		return nil, api.ErrSpec
	}
	if size < 1 || size > api.MaxSize {
		return nil, api.ErrArg
	}
	if len(object) > Room(s.Data, size) {
		return nil, api.ErrShape
	}
	pieces := dataOf(s.Data, size, object)
	spare, e := word.Spare(s, pieces)
	if e != api.OK {
		return nil, e
	}
	pieces = append(pieces, spare...)
	packets := make([]string, 0, len(pieces))
	for i, piece := range pieces {
		text := packet.Text(packet.Packet{Spec: s, Size: size, Number: i, Piece: piece})
		packets = append(packets, text)
	}
	return packets, api.OK
}

// dataOf cuts an object, with its length ahead and noughts behind, into pieces of data. The object must not be too long for them.
func dataOf(count, size int, object string) []string {
	text := make([]byte, 0, count*size)
	text = append(text, byte(len(object)%256), byte(len(object)/256))
	text = append(text, object...)
	for len(text) < count*size {
		text = append(text, 0)
	}
	data := make([]string, 0, count)
	for i := 0; i < count; i++ {
		start := i * size
		data = append(data, string(text[start:start+size]))
	}
	return data
}

// Read gives the object whose data, one piece after the other, these are; ErrForm, if there is none.
func Read(data string) (string, api.Errno) {
	if len(data) < lengthBytes {
		return "", api.ErrForm
	}
	end := lengthBytes + int(data[0]) + 256*int(data[1])
	if end > len(data) {
		return "", api.ErrForm
	}
	for i := end; i < len(data); i++ {
		if data[i] != 0 {
			return "", api.ErrForm
		}
	}
	return data[lengthBytes:end], api.OK
}
