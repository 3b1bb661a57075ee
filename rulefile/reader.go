package rulefile

import "stencil/api"

// end is what peek answers where no byte is left; no byte is equal to it.
const end = -1

// reader goes through a text from its beginning and gathers what it has read.
// Each of its methods stands behind what it read if that was well formed; if
// not, the whole text is refused, and where the reader stands means nothing.
type reader struct {
	text string
	at   int
	file File
}

func (r *reader) peek() int {
	if r.at >= len(r.text) {
		return end
	}
	return int(r.text[r.at])
}

func (r *reader) skip(b int) bool {
	next := r.peek()
	if next != b {
		return false
	}
	r.at++
	return true
}

func (r *reader) add(node Node) int {
	r.file.Nodes = append(r.file.Nodes, node)
	return len(r.file.Nodes) - 1
}

// rules reads the whole text.
func (r *reader) rules() bool {
	ok := r.rule()
	for ok && r.skip('\n') {
		ok = r.rule()
	}
	return ok && r.at == len(r.text) && len(r.file.Rules) <= api.MaxRules
}

func (r *reader) rule() bool {
	conds, ok := r.conds()
	if !ok || !r.skip(' ') {
		return false
	}
	root, ok := r.expression()
	if !ok || !r.skip(' ') {
		return false
	}
	behind, ok := r.behind()
	if !ok {
		return false
	}
	r.file.Rules = append(r.file.Rules, Rule{Conds: conds, Behind: behind, Root: root})
	return true
}

// letter reads a condition's letter.
func (r *reader) letter() (int, bool) {
	b := r.peek()
	if b < 'A' || b >= 'A'+api.MaxConds {
		return 0, false
	}
	r.at++
	return b - 'A', true
}

func (r *reader) conds() ([api.MaxConds]bool, bool) {
	var conds [api.MaxConds]bool
	last, ok := r.letter()
	if !ok {
		return conds, false
	}
	conds[last] = true
	for {
		next, more := r.letter()
		if !more {
			return conds, true
		}
		if next <= last {
			return conds, false
		}
		conds[next] = true
		last = next
	}
}

// behind reads what comes behind a rule, as the byte of an image.
func (r *reader) behind() (int, bool) {
	if r.skip('.') {
		return 0, true
	}
	if r.skip('-') {
		return 1, true
	}
	cond, ok := r.letter()
	if !ok {
		return 0, false
	}
	return cond + 2, true
}

func (r *reader) expression() (int, bool) {
	whole, ok := r.alternative()
	for ok && r.skip('|') {
		next := 0
		next, ok = r.alternative()
		whole = r.add(Node{Kind: Either, Left: whole, Right: next})
	}
	return whole, ok
}

func (r *reader) alternative() (int, bool) {
	whole, ok := r.piece()
	for ok && r.atPiece() {
		next := 0
		next, ok = r.piece()
		whole = r.add(Node{Kind: Joined, Left: whole, Right: next})
	}
	return whole, ok
}

// atPiece tells whether a piece begins here: if not, the alternative is over,
// and whoever asked for it must find what belongs behind it.
func (r *reader) atPiece() bool {
	switch b := r.peek(); b {
	case '(', '[', '.', '\\':
		return true
	default:
		return plain(b, specialOutside)
	}
}

func (r *reader) piece() (int, bool) {
	atom, ok := r.atom()
	if !ok {
		return 0, false
	}
	kind := Place
	switch r.peek() {
	case '?':
		kind = Maybe
	case '+':
		kind = Some
	case '*':
		kind = Many
	default:
		return atom, true
	}
	r.at++
	return r.add(Node{Kind: kind, Left: atom}), true
}

// atom calls expression anew only behind a bracket that it has read, so it
// goes no deeper than the text has bytes.
func (r *reader) atom() (int, bool) {
	if !r.skip('(') {
		return r.place()
	}
	inner, ok := r.expression()
	if !ok || !r.skip(')') {
		return 0, false
	}
	return inner, true
}

func (r *reader) place() (int, bool) {
	allowed, ok := r.allowed()
	if !ok {
		return 0, false
	}
	number := len(r.file.Places)
	r.file.Places = append(r.file.Places, allowed)
	return r.add(Node{Kind: Place, Left: number}), true
}
