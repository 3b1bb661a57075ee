package states

import "stencil/api"

// merge puts the states together whose texts are alike, and keeps their order:
// each new state stands where the first of its old ones stood. It refuses more
// than api.MaxStates new ones.
//
// At first all states of one rule are held to be alike; those that lead to
// states not alike are then parted, until none are left to part.
func merge(raw []State) ([]State, bool) {
	parts := make([]int, len(raw))
	count := 0
	// Each round but the last makes more parts, so the last one comes.
	for {
		finer, firsts := part(raw, parts)
		if len(firsts) > api.MaxStates {
			return nil, false
		}
		if len(firsts) == count {
			return gather(raw, finer, firsts), true
		}
		parts = finer
		count = len(firsts)
	}
}

// part parts the states anew, by where they lead in the parts so far. It tells
// each state's new part, and the first state of each; once there are too many
// parts it goes no further.
func part(raw []State, parts []int) ([]int, []int) {
	finer := make([]int, 0, len(raw))
	firsts := []int{}
	for s := range raw {
		f := 0
		for f < len(firsts) && !alike(raw, parts, firsts[f], s) {
			f++
		}
		if f == len(firsts) {
			firsts = append(firsts, s)
		}
		if len(firsts) > api.MaxStates {
			break
		}
		finer = append(finer, f)
	}
	return finer, firsts
}

// alike tells whether two states are of one part and of one rule, and lead to
// states that are of one part each.
func alike(raw []State, parts []int, s, t int) bool {
	if parts[s] != parts[t] || raw[s].Token != raw[t].Token {
		return false
	}
	for g, to := range raw[s].Next {
		first := partOf(parts, to)
		second := partOf(parts, raw[t].Next[g])
		if first != second {
			return false
		}
	}
	return true
}

func partOf(parts []int, state int) int {
	if state == Nowhere {
		return Nowhere
	}
	return parts[state]
}

// gather makes a state of each part, out of its first one.
func gather(raw []State, parts, firsts []int) []State {
	least := make([]State, 0, len(firsts))
	for _, s := range firsts {
		next := make([]int, 0, len(raw[s].Next))
		for _, to := range raw[s].Next {
			state := partOf(parts, to)
			next = append(next, state)
		}
		least = append(least, State{Token: raw[s].Token, Next: next})
	}
	return least
}
