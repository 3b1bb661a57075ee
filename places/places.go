// Package places tells how the places of a rule file hang together: where
// words begin and end, which place may come behind which, and which bytes
// differ for none of them.
package places

import (
	"stencil/api"
	"stencil/rulefile"
)

// Set is a set of places: the place p is in it if its bit p is set.
type Set int

// All is one more than the greatest set of places that a rule file can have.
const All Set = 1 << api.MaxPlaces

// Net tells by rule at which places its words begin and end, and by place
// which places come next behind it.
type Net struct {
	First, Last []Set
	Next        [api.MaxPlaces]Set
}

// part tells of a part of an expression at which places its words begin and
// end, and whether the empty text is one of them.
type part struct {
	first, last Set
	empty       bool
}

// Link finds the net of a file.
func Link(file rulefile.File) Net {
	net := Net{}
	parts := make([]part, len(file.Nodes))
	for i, node := range file.Nodes {
		left := part{}
		right := part{}
		if node.Kind != rulefile.Place {
			left = parts[node.Left]
			right = parts[node.Right]
		}
		parts[i] = net.whole(node, left, right)
	}
	for _, rule := range file.Rules {
		root := parts[rule.Root]
		net.First = append(net.First, root.first)
		net.Last = append(net.Last, root.last)
	}
	return net
}

// whole is the part that a node makes of its parts.
func (n *Net) whole(node rulefile.Node, left, right part) part {
	switch node.Kind {
	case rulefile.Place:
		own := single(node.Left)
		return part{first: own, last: own}
	case rulefile.Joined:
		n.lead(left.last, right.first)
		return joined(left, right)
	case rulefile.Either:
		return part{left.first | right.first, left.last | right.last, left.empty || right.empty}
	case rulefile.Maybe:
		left.empty = true
	case rulefile.Some:
		n.lead(left.last, left.first)
	case rulefile.Many:
		n.lead(left.last, left.first)
		left.empty = true
	}
	return left
}

func single(place int) Set {
	if place < 0 {
		return 0
	}
	return 1 << place
}

func joined(left, right part) part {
	whole := part{left.first, right.last, left.empty && right.empty}
	if left.empty {
		whole.first |= right.first
	}
	if right.empty {
		whole.last |= left.last
	}
	return whole
}

// lead says that each place of to may come behind each place of from.
func (n *Net) lead(from, to Set) {
	for p := range n.Next {
		if from&single(p) != 0 {
			n.Next[p] |= to
		}
	}
}

// Begin is where a text may go on that is empty as yet, in a condition.
func (n *Net) Begin(file rulefile.File, cond int) Set {
	begin := Set(0)
	for r, rule := range file.Rules {
		for c, named := range rule.Conds {
			if named && c == cond {
				begin |= n.First[r]
			}
		}
	}
	return begin
}

// Behind is where a text may go on that has come to one of the places.
func (n *Net) Behind(places Set) Set {
	next := Set(0)
	for p := range n.Next {
		if places&single(p) != 0 {
			next |= n.Next[p]
		}
	}
	return next
}

// Token is the first rule, and 1, of which a text is a word that has come to
// the places; 0, if there is none.
func (n *Net) Token(places Set) int {
	for r, last := range n.Last {
		if places&last != 0 {
			return r + 1
		}
	}
	return 0
}
