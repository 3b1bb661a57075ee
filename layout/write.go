package layout

import (
	"stencil/places"
	"stencil/rulefile"
	"stencil/states"
)

// Write lays out the image of a rule file, out of its groups of bytes and the
// states of its conditions.
func Write(file rulefile.File, groups places.Groups, conds [][]states.State) string {
	classOf, firsts := classes(len(groups.Places), conds)
	image := []byte{first, second, third, byte(len(file.Rules))}
	for _, rule := range file.Rules {
		image = append(image, byte(rule.Behind))
	}
	image = append(image, byte(len(conds)), byte(len(firsts)-1))
	for _, group := range groups.Of {
		image = append(image, byte(classOf[group]))
	}
	for _, cond := range conds {
		image = append(image, byte(len(cond)))
		for _, state := range cond {
			image = append(image, byte(state.Token))
			for _, group := range firsts {
				to := leadByte(state.Next[group])
				image = append(image, to)
			}
		}
	}
	return string(image)
}

func leadByte(to int) byte {
	if to == states.Nowhere {
		return nowhere
	}
	return byte(to)
}

// classes puts the groups together that lead everywhere to the same states. It
// tells each group's class, and the first group of each class. As the groups
// stand in the order of their lowest bytes, so do the classes.
func classes(groups int, conds [][]states.State) ([]int, []int) {
	classOf := make([]int, 0, groups)
	firsts := []int{}
	for g := 0; g < groups; g++ {
		class := 0
		for class < len(firsts) && !same(conds, firsts[class], g) {
			class++
		}
		if class == len(firsts) {
			firsts = append(firsts, g)
		}
		classOf = append(classOf, class)
	}
	return classOf, firsts
}

// same tells whether two groups lead from each state to the same state.
func same(conds [][]states.State, g, h int) bool {
	for _, cond := range conds {
		for _, state := range cond {
			if state.Next[g] != state.Next[h] {
				return false
			}
		}
	}
	return true
}
