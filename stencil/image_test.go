package stencil_test

import (
	"fmt"
	"slices"
	"strings"
	"testing"

	"stencil/api"
	"stencil/stencil"
)

const nowhere = 255

type state struct {
	token int
	next  []int // by class
}

type table struct {
	behind  []int
	classOf [256]int
	classes int
	conds   [][]state
}

// lay writes an image by hand: the rules' bytes; of each class but 0 its
// bytes (all others are of class 0); and by condition its states: the first
// byte, and where the classes lead (-1: nowhere).
func lay(behind []byte, classes []string, conds ...[][]int) string {
	image := append([]byte{'S', 'T', 1, byte(len(behind))}, behind...)
	image = append(image, byte(len(conds)), byte(len(classes)))
	for b := range 256 {
		class := slices.IndexFunc(classes, func(bytes string) bool { return strings.IndexByte(bytes, byte(b)) >= 0 })
		image = append(image, byte(class+1))
	}
	for _, states := range conds {
		image = append(image, byte(len(states)))
		for _, numbers := range states {
			for _, x := range numbers {
				image = append(image, byte(x))
			}
		}
	}
	return string(image)
}

// readTable takes an image apart; it answers false if the bytes do not end
// just where the numbers in them say.
func readTable(image string) (table, bool) {
	t := table{}
	at := 0
	take := func() int {
		at++
		if at > len(image) {
			return 0
		}
		return int(image[at-1])
	}
	if take() != 'S' || take() != 'T' || take() != 1 {
		return t, false
	}
	for range take() {
		t.behind = append(t.behind, take())
	}
	conds := take()
	t.classes = take() + 1
	for b := range t.classOf {
		t.classOf[b] = take()
	}
	for range conds {
		states := make([]state, take())
		for s := range states {
			states[s].token = take()
			for range t.classes {
				states[s].next = append(states[s].next, take())
			}
		}
		t.conds = append(t.conds, states)
	}
	return t, at == len(image)
}

// walk tells the token's rule and 1 of a text; 0, if it is none.
func (t table) walk(cond int, text string) int {
	s := 0
	for i := range len(text) {
		s = t.conds[cond][s].next[t.classOf[text[i]]]
		if s == nowhere {
			return 0
		}
	}
	return t.conds[cond][s].token
}

// faultInClasses looks for two classes that lead alike, and for classes that
// do not stand in the order of their lowest bytes.
func (t table) faultInClasses() string {
	met := 0
	for b, class := range t.classOf {
		if class > met {
			return fmt.Sprintf("byte %d is of class %d too early", b, class)
		}
		met = max(met, class+1)
	}
	if met != t.classes {
		return fmt.Sprintf("of %d classes %d have bytes", t.classes, met)
	}
	columns := map[string]int{}
	for class := range t.classes {
		column := ""
		for _, states := range t.conds {
			for _, s := range states {
				column += fmt.Sprint(s.next[class], " ")
			}
		}
		if other, again := columns[column]; again {
			return fmt.Sprintf("classes %d and %d lead alike", other, class)
		}
		columns[column] = class
	}
	return ""
}

// faultInNumbers looks for rules and states that there are not.
func (t table) faultInNumbers(cond int) string {
	states := t.conds[cond]
	if len(states) == 0 || len(states) > api.MaxStates {
		return fmt.Sprintf("there are %d states", len(states))
	}
	for s, from := range states {
		if from.token > len(t.behind) {
			return fmt.Sprintf("state %d is of rule %d", s, from.token-1)
		}
		for class, to := range from.next {
			if to != nowhere && to >= len(states) {
				return fmt.Sprintf("class %d leads from state %d to %d", class, s, to)
			}
		}
	}
	return ""
}

// earliest tells the earliest text of each state that some text comes to.
func (t table) earliest(cond int) map[int]string {
	texts := map[int]string{0: ""}
	for queue := []int{0}; len(queue) > 0; queue = queue[1:] {
		for b := range 256 {
			to := t.conds[cond][queue[0]].next[t.classOf[b]]
			if _, met := texts[to]; to != nowhere && !met {
				texts[to] = texts[queue[0]] + string([]byte{byte(b)})
				queue = append(queue, to)
			}
		}
	}
	return texts
}

// faultInStates looks for states that are alike, not alive, not come to, or
// not in the order of their earliest texts.
func (t table) faultInStates(cond int) string {
	states := t.conds[cond]
	texts := t.earliest(cond)
	for s := range states {
		text, met := texts[s]
		if !met {
			return fmt.Sprintf("no text comes to state %d", s)
		}
		if before := texts[s-1]; s > 0 && (len(before) > len(text) || len(before) == len(text) && before > text) {
			return fmt.Sprintf("state %d of %q is behind state %d of %q", s, text, s-1, before)
		}
	}
	// One more, to which no text of a token leads.
	dead := state{0, slices.Repeat([]int{nowhere}, t.classes)}
	kinds := make([]int, len(states)+1)
	for range kinds {
		kinds = parted(append(slices.Clone(states), dead), kinds)
	}
	for s := range states {
		if other := slices.Index(kinds, kinds[s]); other < s {
			return fmt.Sprintf("states %d and %d are alike", other, s)
		}
		if len(states) > 1 && kinds[s] == kinds[len(states)] {
			return fmt.Sprintf("state %d is not alive", s)
		}
	}
	return ""
}

// parted parts states by token and by the kinds to which they lead; nowhere
// is of the kind of the last one.
func parted(states []state, kinds []int) []int {
	names := map[string]int{}
	finer := []int{}
	for _, s := range states {
		name := fmt.Sprint(s.token)
		for _, to := range s.next {
			name += fmt.Sprint(" ", kinds[min(to, len(states)-1)])
		}
		if _, met := names[name]; !met {
			names[name] = len(names)
		}
		finer = append(finer, names[name])
	}
	return finer
}

// faultInWords looks for texts that the image takes otherwise than the model:
// single bytes, and of each state its earliest text and some bytes behind it.
func (t table) faultInWords(m model, cond int, pick func(int) int) string {
	texts := []string{}
	for b := range 256 {
		texts = append(texts, string([]byte{byte(b)}))
	}
	for _, text := range t.earliest(cond) {
		for class := range t.classes {
			longer := text + t.byteOf(class, pick)
			texts = append(texts, text, longer)
			for range 3 {
				longer += t.byteOf(pick(t.classes), pick)
				texts = append(texts, longer)
			}
		}
	}
	for _, text := range texts {
		if got, want := t.walk(cond, text), m.token(cond, text); got != want {
			return fmt.Sprintf("%q is a token of %d, want %d (the rule and 1)", text, got, want)
		}
	}
	return ""
}

// byteOf picks a byte of a class.
func (t table) byteOf(class int, pick func(int) int) string {
	bytes := []byte{}
	for b, c := range t.classOf {
		if c == class {
			bytes = append(bytes, byte(b))
		}
	}
	i := pick(len(bytes))
	return string(bytes[i : i+1])
}

// examine compares what Compile answers with the model. It tells whether there
// was an image.
func examine(t *testing.T, rules string, pick func(int) int) bool {
	t.Helper()
	m, want := readModel(rules)
	image, e := stencil.Compile(rules)
	if want != api.OK {
		if e != want || image != "" {
			t.Errorf("Compile(%q) = %.20q, %d, want error %d", rules, image, e, want)
		}
		return false
	}
	if e == api.ErrStates && image == "" && m.places > 6 {
		// With 6 places no condition has more than 64 states; above that
		// the model does not know.
		return false
	}
	got, whole := readTable(image)
	if e != api.OK || !whole {
		t.Errorf("Compile(%q) = %q, %d, want an image", rules, image, e)
		return false
	}
	fault := got.fault(m, pick)
	if fault != "" {
		t.Errorf("Compile(%q): %s", rules, fault)
	}
	return true
}

func (t table) fault(m model, pick func(int) int) string {
	if len(t.behind) != len(m.rules) || len(t.conds) != m.conds {
		return fmt.Sprintf("%d rules and %d conditions, want %d and %d", len(t.behind), len(t.conds), len(m.rules), m.conds)
	}
	for r, rule := range m.rules {
		if t.behind[r] != rule.behind {
			return fmt.Sprintf("behind rule %d is %d, want %d", r, t.behind[r], rule.behind)
		}
	}
	if fault := t.faultInClasses(); fault != "" {
		return fault
	}
	for c := range t.conds {
		fault := t.faultInNumbers(c)
		if fault == "" {
			fault = t.faultInStates(c)
		}
		if fault == "" {
			fault = t.faultInWords(m, c, pick)
		}
		if fault != "" {
			return fmt.Sprintf("condition %d: %s", c, fault)
		}
	}
	return ""
}

// picker makes numbers that look random and are the same at every run.
func picker(seed uint64) func(int) int {
	return func(below int) int {
		seed = seed*6364136223846793005 + 1442695040888963407
		return int((seed >> 33) % uint64(below))
	}
}
