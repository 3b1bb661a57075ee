// Package states finds the states of a condition, the least that there are.
package states

import (
	"stencil/api"
	"stencil/places"
	"stencil/rulefile"
)

// Nowhere is where a byte leads behind which no text is alive.
const Nowhere = -1

// State is one state: 0 if its texts are no tokens, else their rule and 1; and
// by group of bytes (in an image: by class) the state to which its bytes lead,
// or Nowhere.
type State struct {
	Token int
	Next  []int
}

// All finds the states of every condition, each in the order of the earliest
// texts. It refuses a file of which a condition has too many.
func All(file rulefile.File, groups places.Groups) ([][]State, api.Errno) {
	net := places.Link(file)
	count := file.Conds()
	conds := make([][]State, 0, count)
	for c := 0; c < count; c++ {
		begin := net.Begin(file, c)
		raw := spread(net, groups, begin)
		least, ok := merge(raw)
		if !ok {
			return nil, api.ErrStates
		}
		conds = append(conds, least)
	}
	return conds, api.OK
}
