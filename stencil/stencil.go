// Package stencil: rule files pressed into images, and inputs cut by them: see DOC.md.
package stencil

import (
	"stencil/api"
	"stencil/cut"
	"stencil/layout"
	"stencil/places"
	"stencil/rulefile"
	"stencil/states"
)

// Cutter cuts one input after the other.
type Cutter struct {
	tables layout.Image
	cond   int
}

// Compile presses a rule file into its image (P3).
func Compile(rules string) (string, api.Errno) {
	file, e := rulefile.Parse(rules)
	if e != api.OK {
		return "", e
	}
	groups := places.Group(file)
	conds, e := states.All(file, groups)
	if e != api.OK {
		return "", e
	}
	return layout.Write(file, groups, conds), api.OK
}

// Check tells whether it is an image (P4).
func Check(image string) api.Errno {
	_, e := layout.Read(image)
	return e
}

// Scan cuts an input, and tells how many steps that took (P5).
func Scan(image string, input string) ([]api.Token, int, api.Errno) {
	if len(input) > api.MaxInput {
		return nil, 0, api.ErrLong
	}
	tables, e := layout.Read(image)
	if e != api.OK {
		return nil, 0, e
	}
	tokens, steps, _ := cut.Cut(tables, 0, input)
	return tokens, steps, api.OK
}

// Open makes a cutter (P6).
func Open(image string) (*Cutter, api.Errno) {
	tables, e := layout.Read(image)
	if e != api.OK {
		return nil, e
	}
	return &Cutter{tables: tables}, api.OK
}

// Cond tells the cutter's condition (P6).
func (c *Cutter) Cond() int { return c.cond }

// Next cuts an input more (P6).
func (c *Cutter) Next(input string) ([]api.Token, api.Errno) {
	if len(input) > api.MaxInput {
		return nil, api.ErrLong
	}
	tokens, _, cond := cut.Cut(c.tables, c.cond, input)
	c.cond = cond
	return tokens, api.OK
}
