package image

import "burin/api"

// place tells a union from all others of the whole, also from those that begin at the same bit: the steps that lead to it, and how many these are.
type place struct {
	steps [api.MaxDeep]int
	count int
}

// turn makes the unions 0 that are come through by another member than the last time, and keeps by which one they are now.
func turn(image []byte, last map[place]int, stops []stop) {
	at := place{}
	for _, s := range stops {
		if s.of.t.Shape == api.SUnion {
			member, led := last[at]
			if led && member != s.step {
				clear(image[s.from/8:][:s.of.size()])
			}
			last[at] = s.step
		}
		at.steps[at.count] = s.step
		at.count++
	}
}
