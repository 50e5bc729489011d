// Package draw draws numbers from a seed, always the same ones from the same seed.
package draw

import "refill/api"

// Drawer holds the number from which the next one is drawn.
type Drawer struct {
	x int
}

// From makes a drawer that begins at a seed, 0 to api.MaxSeed.
func From(seed int) *Drawer {
	return &Drawer{x: seed}
}

// Below draws a number from 0 to n - 1. Below 1 there is only 0, so a smaller n gives 0 too.
func (d *Drawer) Below(n int) int {
	d.x = (api.Times*d.x + api.Plus) % api.Prime
	if n < 1 {
		return 0
	}
	return d.x % n
}
