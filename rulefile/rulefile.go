// Package rulefile reads the text of a rule file.
package rulefile

import "stencil/api"

// The kinds of a Node.
const (
	Place  = 0 // the place numbered Left
	Joined = 1 // Left, and Right behind it
	Either = 2 // Left, or Right
	Maybe  = 3 // Left, or the empty text
	Some   = 4 // Left, once or more
	Many   = 5 // Left, never or more
)

// Node is a part of an expression. But for a place, Left and Right number
// nodes that stand ahead of it in the list, so that one walk through the list
// meets every part before the whole.
type Node struct {
	Kind, Left, Right int
}

// Bytes tells of each byte whether a place allows it.
type Bytes [256]bool

// Rule is one rule: the conditions that it names, what comes behind it (the
// byte of an image) and the node of its expression.
type Rule struct {
	Conds  [api.MaxConds]bool
	Behind int
	Root   int
}

// File is a rule file that was read.
type File struct {
	Rules  []Rule
	Nodes  []Node
	Places []Bytes
}

// Parse reads a rule file. It refuses a text that is too long, then one that
// is no rule file, then one with too many places.
func Parse(text string) (File, api.Errno) {
	if len(text) > api.MaxText {
		return File{}, api.ErrLong
	}
	r := reader{text: text}
	ok := r.rules()
	if !ok {
		return File{}, api.ErrText
	}
	if len(r.file.Places) > api.MaxPlaces {
		return File{}, api.ErrPlaces
	}
	return r.file, api.OK
}

// Conds tells how many conditions the file has: up to the highest that a rule
// names or that comes behind one.
func (f File) Conds() int {
	count := 1
	for _, rule := range f.Rules {
		for c, named := range rule.Conds {
			if named && c+1 > count {
				count = c + 1
			}
		}
		// A letter's byte is its number and 2, so one less is how many
		// conditions it asks for.
		if rule.Behind-1 > count {
			count = rule.Behind - 1
		}
	}
	return count
}
