package states

import "stencil/places"

// walk gathers states by the places to which their texts have come. Only the
// empty text has come to none, so the set of state 0 is empty, and no other.
type walk struct {
	sets   []places.Set
	number [places.All]int
	states []State
}

// spread finds what the texts of a condition come to that may begin at the
// places begin. Texts of one state are alike here, but two states may be too.
//
// Each text that comes to a place is alive, as every place allows some byte,
// and something may always come behind it until a word is whole. The states
// are met, and so numbered, in the order of their earliest texts: those of the
// earlier states come first, with the lower bytes first.
func spread(net places.Net, groups places.Groups, begin places.Set) []State {
	w := walk{}
	w.add(net, 0)
	// There are no more states than sets of places, so this ends.
	for s := 0; s < len(w.sets); s++ {
		ahead := begin
		if s > 0 {
			ahead = net.Behind(w.sets[s])
		}
		next := make([]int, 0, len(groups.Places))
		for _, allowing := range groups.Places {
			to := w.to(net, ahead&allowing)
			next = append(next, to)
		}
		w.states[s].Next = next
	}
	return w.states
}

// to is the state of those that have come to the places, which is new if none
// has come there before.
func (w *walk) to(net places.Net, set places.Set) int {
	if set <= 0 || set >= places.All {
		return Nowhere
	}
	if w.number[set] == 0 {
		w.number[set] = len(w.sets)
		w.add(net, set)
	}
	return w.number[set]
}

func (w *walk) add(net places.Net, set places.Set) {
	token := net.Token(set)
	w.sets = append(w.sets, set)
	w.states = append(w.states, State{Token: token})
}
