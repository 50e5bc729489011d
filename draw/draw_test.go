package draw

import "testing"

func TestDrawsAsTheDocumentCounts(t *testing.T) {
	for _, c := range []struct {
		seed, n int
		want    []int
	}{
		// 74, 5624, then 421874 less 6 times 65537: 28652
		{0, 65537, []int{74, 5624, 28652}},
		{0, 2, []int{0, 0, 0}},
		{0, 12, []int{2, 8, 8}},
		{1, 65537, []int{149, 11249, 57305, 38044}},
		{1, 3, []int{2, 2, 2, 1}},
		// the greatest seed is 2 below nought: 65537 less 76, then less 75 times 75 and 1 more
		{65535, 65537, []int{65461, 59911}},
	} {
		d := From(c.seed)
		for i, want := range c.want {
			if got := d.Below(c.n); got != want {
				t.Errorf("seed %d, draw %d below %d = %d, want %d", c.seed, i, c.n, got, want)
			}
		}
	}
}

func TestBelowOneIsNoughtAndStillDraws(t *testing.T) {
	for _, n := range []int{1, 0, -1, -1 << 63} {
		d := From(0)
		if got := d.Below(n); got != 0 {
			t.Errorf("below %d = %d", n, got)
		}
		if got := d.Below(65537); got != 5624 {
			t.Errorf("the draw after one below %d = %d, want 5624", n, got)
		}
	}
}

func TestDrawersDoNotTouchOneAnother(t *testing.T) {
	a := From(0)
	b := From(1)
	a.Below(2)
	if got := b.Below(65537); got != 149 {
		t.Errorf("the second drawer = %d, want 149", got)
	}
	if got := a.Below(65537); got != 5624 {
		t.Errorf("the first drawer = %d, want 5624", got)
	}
}
