package places

import "stencil/rulefile"

// Groups puts the bytes together that the same places allow: by byte its
// group, by group the places. The groups are numbered by their lowest bytes.
type Groups struct {
	Of     [256]int
	Places []Set
}

// Group finds the groups of a file.
func Group(file rulefile.File) Groups {
	groups := Groups{}
	for b := range groups.Of {
		places := allowing(file, b)
		g := find(groups.Places, places)
		if g == len(groups.Places) {
			groups.Places = append(groups.Places, places)
		}
		groups.Of[b] = g
	}
	return groups
}

// allowing is the set of the places that allow a byte.
func allowing(file rulefile.File, b int) Set {
	places := Set(0)
	for p, allowed := range file.Places {
		if allowed[b] {
			places |= single(p)
		}
	}
	return places
}

// find tells where a set stands in a list; the list's length, if nowhere.
func find(list []Set, set Set) int {
	for i, s := range list {
		if s == set {
			return i
		}
	}
	return len(list)
}
