package class

import (
	"testing"

	"burin/api"
)

// P12.2: an argument of CNone alone lies nowhere, whether registers are left or not. The first eight of each right type has a number's bit, so that only the call within can be asked.
func TestNoneAlone(t *testing.T) {
	alone := value{size: 8, align: 8, classes: []int{api.CNone}}
	var p places
	for arg := range 8 {
		before := len(p.l)
		used, stack := p.used, p.stack
		p.put(arg, alone)
		if len(p.l) != before || p.used != used || p.stack != stack {
			t.Errorf("%d: %+v", arg, p)
		}
		p.put(arg, address())
	}
	if p.used != 6 || p.stack != 16 || len(p.l) != 8 {
		t.Errorf("%+v", p)
	}
}
