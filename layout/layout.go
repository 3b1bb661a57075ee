// Package layout knows how images are laid out, byte by byte.
package layout

import "stencil/states"

// The bytes with which every image begins.
const (
	first  = 'S'
	second = 'T'
	third  = 1
)

// nowhere is the byte for a class that leads nowhere.
const nowhere = 255

// Image is what an image says: what is behind each rule, the class of each
// byte, and the states of each condition.
type Image struct {
	Behind  []int
	ClassOf [256]int
	Conds   [][]states.State
}
