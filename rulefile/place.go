package rulefile

// The bytes that do not stand for themselves: outside of a set and inside.
const (
	specialOutside = "\\|*+?.()[]"
	specialInside  = "\\]^-"
)

// plain tells whether a byte, or end, stands for itself.
func plain(b int, special string) bool {
	if !visible(b) {
		return false
	}
	for i := 0; i < len(special); i++ {
		if int(special[i]) == b {
			return false
		}
	}
	return true
}

func visible(b int) bool {
	return b >= 33 && b <= 126
}

func letterOrDigit(b int) bool {
	return b >= 'a' && b <= 'z' || b >= 'A' && b <= 'Z' || b >= '0' && b <= '9'
}

// allowed reads a place: the bytes that it allows.
func (r *reader) allowed() (Bytes, bool) {
	if r.skip('[') {
		return r.set()
	}
	if r.skip('.') {
		return Bytes{}.not(), true
	}
	b, ok := r.single(specialOutside)
	if !ok {
		return Bytes{}, false
	}
	return Bytes{}.with(b, b), true
}

// set reads what is behind the opening bracket of a set.
func (r *reader) set() (Bytes, bool) {
	others := r.skip('^')
	members, ok := r.member(Bytes{})
	for ok && !r.skip(']') {
		members, ok = r.member(members)
	}
	if !ok {
		return Bytes{}, false
	}
	if others {
		return members.not(), true
	}
	return members, true
}

// member reads one member more of a set.
func (r *reader) member(before Bytes) (Bytes, bool) {
	first, ok := r.single(specialInside)
	if !ok {
		return before, false
	}
	if !r.skip('-') {
		return before.with(first, first), true
	}
	last, ok := r.single(specialInside)
	if !ok || last < first {
		return before, false
	}
	return before.with(first, last), true
}

// single reads a byte that stands for itself, or a backslash and what stands
// for a byte.
func (r *reader) single(special string) (int, bool) {
	if r.skip('\\') {
		return r.escaped()
	}
	b := r.peek()
	if !plain(b, special) {
		return 0, false
	}
	r.at++
	return b, true
}

func (r *reader) escaped() (int, bool) {
	if r.skip('n') {
		return '\n', true
	}
	if r.skip('s') {
		return ' ', true
	}
	b := r.peek()
	if !visible(b) || letterOrDigit(b) {
		return 0, false
	}
	r.at++
	return b, true
}

// with is the set and the bytes from first to last.
func (s Bytes) with(first, last int) Bytes {
	for b := range s {
		if b >= first && b <= last {
			s[b] = true
		}
	}
	return s
}

func (s Bytes) not() Bytes {
	for b := range s {
		s[b] = !s[b]
	}
	return s
}
