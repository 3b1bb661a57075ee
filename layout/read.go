package layout

import (
	"stencil/api"
	"stencil/states"
)

// reader takes an image apart. Once a byte is not what it may be, bad is set
// for good, and the numbers that are told are of no worth.
type reader struct {
	text string
	at   int
	bad  bool
}

// Read reads an image. It refuses a text that is too long, then one that is no
// image. What it answers shares no memory with the text, and every number in
// it can be relied on: a class has its place in every state, a state to which
// another leads is there, and so is a condition that is behind a rule.
func Read(text string) (Image, api.Errno) {
	if len(text) > api.MaxImage {
		return Image{}, api.ErrLong
	}
	r := reader{text: text}
	image := r.image()
	if r.bad || r.at < len(text) {
		return Image{}, api.ErrImage
	}
	return image, api.OK
}

// number takes the next byte, which must be from low to high.
func (r *reader) number(low, high int) int {
	if r.at >= len(r.text) {
		r.bad = true
		return low
	}
	x := int(r.text[r.at])
	r.at++
	if x < low || x > high {
		r.bad = true
		return low
	}
	return x
}

// numbers takes that many bytes, each of which is at most high.
func (r *reader) numbers(count, high int) []int {
	list := make([]int, 0, count)
	for len(list) < count {
		x := r.number(0, high)
		list = append(list, x)
	}
	return list
}

func (r *reader) image() Image {
	image := Image{}
	r.number(first, first)
	r.number(second, second)
	r.number(third, third)
	rules := r.number(1, api.MaxRules)
	image.Behind = r.numbers(rules, 1+api.MaxConds)
	conds := r.number(1, api.MaxConds)
	// Only here it is known which conditions there are.
	for _, behind := range image.Behind {
		if behind > 1+conds {
			r.bad = true
		}
	}
	classes := 1 + r.number(0, 255)
	for b := range image.ClassOf {
		image.ClassOf[b] = r.number(0, classes-1)
	}
	for len(image.Conds) < conds {
		cond := r.cond(rules, classes)
		image.Conds = append(image.Conds, cond)
	}
	return image
}

func (r *reader) cond(rules, classes int) []states.State {
	count := r.number(1, api.MaxStates)
	list := make([]states.State, 0, count)
	for len(list) < count {
		token := r.number(0, rules)
		next := make([]int, 0, classes)
		for len(next) < classes {
			to := r.lead(count)
			next = append(next, to)
		}
		list = append(list, states.State{Token: token, Next: next})
	}
	return list
}

// lead takes the byte that tells to which of so many states a class leads.
func (r *reader) lead(count int) int {
	x := r.number(0, nowhere)
	if x == nowhere {
		return states.Nowhere
	}
	if x >= count {
		r.bad = true
	}
	return x
}
