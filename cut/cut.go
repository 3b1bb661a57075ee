// Package cut cuts inputs into tokens.
package cut

import (
	"stencil/api"
	"stencil/layout"
	"stencil/states"
)

// progress is a cut on its way: where it stands, and what it has told so far.
type progress struct {
	image    layout.Image
	input    string
	cond     int
	place    int
	steps    int
	tokens   []api.Token
	hopeless [][]bool // by condition, of each state the places in the input
}

// Cut cuts an input, beginning in a condition that the image has. It tells the
// tokens, how many steps it took, and the condition in which it ends.
func Cut(image layout.Image, cond int, input string) ([]api.Token, int, int) {
	c := progress{image: image, input: input, cond: cond}
	for _, list := range image.Conds {
		c.hopeless = append(c.hopeless, make([]bool, len(list)*len(input)))
	}
	// No token is empty, so each moves the cut on, and this ends.
	for c.place < len(input) {
		token, to := c.look()
		if token == 0 {
			c.tell(api.NoRule, c.place)
			break
		}
		c.pass(token-1, to)
	}
	return c.tokens, c.steps, c.cond
}

// look looks for a token from where the cut stands. It tells its rule and 1,
// and its end; 0, if it finds none.
func (c *progress) look() (int, int) {
	list := c.image.Conds[c.cond]
	hopeless := c.hopeless[c.cond]
	token := 0
	to := c.place
	state := 0
	// What stood ahead of a step since the last token was found.
	stood := []int{}
	for i := c.place; i < len(c.input); i++ {
		stands := state*len(c.input) + i
		if hopeless[stands] {
			break
		}
		stood = append(stood, stands)
		c.steps++
		state = list[state].Next[c.image.ClassOf[c.input[i]]]
		if state == states.Nowhere {
			break
		}
		if list[state].Token != 0 {
			token = list[state].Token
			to = i + 1
			stood = stood[:0]
		}
	}
	for _, stands := range stood {
		hopeless[stands] = true
	}
	return token, to
}

// pass does what is behind the rule of a token that was found, and moves on to
// the token's end.
func (c *progress) pass(rule, to int) {
	behind := c.image.Behind[rule]
	if behind != 1 {
		c.tell(rule, to)
	}
	if behind >= 2 {
		c.cond = behind - 2
	}
	c.place = to
}

func (c *progress) tell(rule, to int) {
	c.tokens = append(c.tokens, api.Token{Rule: rule, From: c.place, To: to})
}
