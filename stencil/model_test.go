package stencil_test

import (
	"fmt"
	"regexp"
	"strings"

	"stencil/api"
)

// The tests' own reading of rule files, by Go's regular expressions: which
// texts are rule files, and which texts are tokens of which rule. To keep
// bytes and characters one and the same, each byte is first made the character
// of its number.

const (
	escape = "\\\\[ns!-/:-@\\[-`{-~]"
	item   = `(?:[!-,.-\[_-~]|` + escape + `)`
	place  = `[!-',\-/->@-Z^-{}~]|\.|` + escape + `|\[\^?(?:` + item + `(?:-` + item + `)?)+\]`
	pieces = `x[*+?]?(?:\|?x[*+?]?)*`
)

var (
	placeForm  = regexp.MustCompile(place)
	memberForm = regexp.MustCompile(`(` + item + `)(?:-(` + item + `))?`)
	ruleForm   = regexp.MustCompile(`\A(A?B?C?D?) ([^ ]+) ([.A-D-])\z`)
	innerForm  = regexp.MustCompile(`\(` + pieces + `\)`)
	wholeForm  = regexp.MustCompile(`\A` + pieces + `\z`)
)

type modelRule struct {
	conds  string
	behind int
	words  *regexp.Regexp
}

type model struct {
	rules  []modelRule
	conds  int
	places int
}

func wide(text string) string {
	runes := make([]rune, len(text))
	for i := range len(text) {
		runes[i] = rune(text[i])
	}
	return string(runes)
}

// readModel reads a rule file and tells every error but ErrStates.
func readModel(text string) (model, api.Errno) {
	m := model{}
	if len(text) > api.MaxText {
		return m, api.ErrLong
	}
	lines := strings.Split(wide(text), "\n")
	if len(lines) > api.MaxRules {
		return m, api.ErrText
	}
	for _, line := range lines {
		parts := ruleForm.FindStringSubmatch(line)
		if parts == nil || parts[1] == "" || !isExpression(parts[2]) {
			return m, api.ErrText
		}
		m.add(parts[1], parts[2], parts[3])
	}
	if m.places > api.MaxPlaces {
		return m, api.ErrPlaces
	}
	return m, api.OK
}

func (m *model) add(conds, expression, behind string) {
	m.places += len(placeForm.FindAllString(expression, -1))
	words := regexp.MustCompile(`\A(?:` + placeForm.ReplaceAllStringFunc(expression, goSet) + `)\z`)
	m.rules = append(m.rules, modelRule{conds, strings.Index(".-ABCD", behind), words})
	for c, letter := range "ABCD" {
		if strings.ContainsRune(conds+behind, letter) {
			m.conds = max(m.conds, c+1)
		}
	}
}

func isExpression(text string) bool {
	for _, p := range placeForm.FindAllString(text, -1) {
		for _, span := range spans(p) {
			if span[1] < span[0] {
				return false
			}
		}
	}
	text = placeForm.ReplaceAllString(text, "x")
	for before := ""; before != text; {
		before = text
		text = innerForm.ReplaceAllString(text, "x")
	}
	return wholeForm.MatchString(text)
}

// spans tells the members of a set, or what another place allows.
func spans(place string) [][2]int {
	if place == "." {
		return [][2]int{{0, 255}}
	}
	if !strings.HasPrefix(place, "[") {
		return [][2]int{{stands(place), stands(place)}}
	}
	list := [][2]int{}
	inner := strings.TrimPrefix(place[1:len(place)-1], "^")
	for _, m := range memberForm.FindAllStringSubmatch(inner, -1) {
		last := m[2]
		if last == "" {
			last = m[1]
		}
		list = append(list, [2]int{stands(m[1]), stands(last)})
	}
	return list
}

func stands(item string) int {
	switch {
	case item == `\n`:
		return 10
	case item == `\s`:
		return 32
	case len(item) == 2:
		return int(item[1])
	}
	return int(item[0])
}

// goSet writes a place as a set of Go's.
func goSet(place string) string {
	set := "["
	if strings.HasPrefix(place, "[^") {
		set = "[^"
	}
	for _, span := range spans(place) {
		set += fmt.Sprintf(`\x{%x}-\x{%x}`, span[0], span[1])
	}
	return set + "]"
}

// token tells the rule of a token and 1; 0, if it is none.
func (m model) token(cond int, text string) int {
	if text == "" {
		return 0
	}
	for r, rule := range m.rules {
		if strings.Contains(rule.conds, "ABCD"[cond:cond+1]) && rule.words.MatchString(wide(text)) {
			return r + 1
		}
	}
	return 0
}
