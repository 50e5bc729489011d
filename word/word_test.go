package word

import (
	"testing"

	"refill/api"
)

func TestMayBe(t *testing.T) {
	const least, most = -1 << 63, 1<<63 - 1
	for _, c := range []struct {
		s    api.Spec
		want bool
	}{
		{api.Spec{Data: 1, Spare: 1, Ones: 1, Seed: 0}, true},
		{api.Spec{Data: 20, Spare: 20, Ones: 20, Seed: 65535}, true},
		{api.Spec{Data: 20, Spare: 1, Ones: 1, Seed: 0}, true},
		{api.Spec{Data: 1, Spare: 20, Ones: 1, Seed: 65535}, true},
		{api.Spec{}, false},
		{api.Spec{Data: 0, Spare: 1, Ones: 1, Seed: 0}, false},
		{api.Spec{Data: 21, Spare: 1, Ones: 1, Seed: 0}, false},
		{api.Spec{Data: 1, Spare: 0, Ones: 1, Seed: 0}, false},
		{api.Spec{Data: 1, Spare: 0, Ones: 0, Seed: 0}, false},
		{api.Spec{Data: 1, Spare: 21, Ones: 1, Seed: 0}, false},
		{api.Spec{Data: 1, Spare: 20, Ones: 0, Seed: 0}, false},
		{api.Spec{Data: 1, Spare: 20, Ones: 21, Seed: 0}, false},
		{api.Spec{Data: 20, Spare: 4, Ones: 5, Seed: 0}, false},
		{api.Spec{Data: 1, Spare: 1, Ones: 1, Seed: -1}, false},
		{api.Spec{Data: 1, Spare: 1, Ones: 1, Seed: 65536}, false},
		{api.Spec{Data: least, Spare: 1, Ones: 1, Seed: 0}, false},
		{api.Spec{Data: most, Spare: 1, Ones: 1, Seed: 0}, false},
		{api.Spec{Data: 1, Spare: least, Ones: least, Seed: 0}, false},
		{api.Spec{Data: 1, Spare: most, Ones: most, Seed: 0}, false},
		{api.Spec{Data: 1, Spare: 1, Ones: least, Seed: 0}, false},
		{api.Spec{Data: 1, Spare: 1, Ones: most, Seed: 0}, false},
		{api.Spec{Data: 1, Spare: 1, Ones: 1, Seed: least}, false},
		{api.Spec{Data: 1, Spare: 1, Ones: 1, Seed: most}, false},
	} {
		if got := MayBe(c.s); got != c.want {
			t.Errorf("MayBe(%v) = %v", c.s, got)
		}
	}
}

func TestFreeAt(t *testing.T) {
	var chosen [api.MaxSpare]bool
	chosen[0] = true
	chosen[2] = true
	for d, want := range []int{1, 3, 4, 5} {
		if got := freeAt(chosen, d); got != want {
			t.Errorf("freeAt place %d = %d, want %d", d, got, want)
		}
	}
	for _, d := range []int{18, 100, -1} {
		if got := freeAt(chosen, d); got != api.MaxSpare-1 {
			t.Errorf("freeAt place %d = %d, want the last row", d, got)
		}
	}
}

func TestSum(t *testing.T) {
	pieces := []string{"\x01\x80", "\x03\xff", "\xf0\x0f"}
	for _, c := range []struct {
		numbers []int
		want    string
	}{
		{nil, "\x00\x00"},
		{[]int{1}, "\x03\xff"},
		{[]int{0, 1}, "\x02\x7f"},
		{[]int{0, 1, 2}, "\xf2\x70"},
		{[]int{1, 1}, "\x00\x00"},
		{[]int{-1, 0, 3}, "\x01\x80"},
	} {
		if got := sum(pieces, c.numbers, 2); got != c.want {
			t.Errorf("sum of %v = %q, want %q", c.numbers, got, c.want)
		}
	}
}
