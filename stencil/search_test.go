package stencil_test

import (
	"strings"
	"testing"

	"stencil/api"
	"stencil/stencil"
)

// texts calls do for every text of up to length signs.
func texts(signs []string, length int, do func(string)) {
	var grow func(text string, left int)
	grow = func(text string, left int) {
		do(text)
		for _, s := range signs {
			if left > 0 {
				grow(text+s, left-1)
			}
		}
	}
	grow("", length)
}

// Every short text in place of each part of a rule, and of all of it.
func TestEveryShortText(t *testing.T) {
	pick := picker(7)
	texts(strings.Split("a b ( ) | * + ?", " "), 5, func(text string) { examine(t, "A "+text+" .", pick) })
	texts(strings.Split("a [ ] ^ - \\ n", " "), 5, func(text string) { examine(t, "A "+text+" .", pick) })
	texts([]string{"a", "b", "^", "-", "\\", "n", "!", "]"}, 4, func(text string) { examine(t, "A ["+text+"] .", pick) })
	texts([]string{"A", "B", "C", "D", "E", "a", " "}, 4, func(text string) { examine(t, text+" a .", pick) })
	texts([]string{"A", "D", "E", ".", "-", " ", "\n"}, 3, func(text string) { examine(t, "A a "+text, pick) })
	texts([]string{"A", "a", " ", ".", "\n"}, 6, func(text string) { examine(t, text, pick) })
	for b := range 256 {
		c := string([]byte{byte(b)})
		for _, text := range []string{c, c + " a .", "A" + c + " a .", "A" + c + "a .", "A a" + c + ".", "A a " + c, "A a ." + c, "A a ." + c + "B b ."} {
			examine(t, text, pick)
		}
	}
}

// Rule files that differ in one byte, or in the loss of one, from good ones.
func TestNearRuleFiles(t *testing.T) {
	pick := picker(8)
	for _, rules := range []string{
		"A if .\nA [a-z]+ .\nA \\s -", "A a .\nA \" B\nB [^\"]+ .\nB \" A", "ABCD (a|b(c)?)* D\nBD [\\n-\\s]|\\\\ -", "A abcdefghij .",
	} {
		examine(t, rules, pick)
		for i := range len(rules) {
			examine(t, rules[:i], pick)
			examine(t, rules[:i]+rules[i+1:], pick)
			for _, c := range " \nABa|*(.)[^-]\\s\x00\x80" {
				b := string([]byte{byte(c)})
				examine(t, rules[:i]+b+rules[i+1:], pick)
				examine(t, rules[:i]+b+rules[i:], pick)
			}
		}
	}
}

// maker writes random rule files.
type maker struct {
	pick func(int) int
}

func (m maker) one(list ...string) string { return list[m.pick(len(list))] }

func (m maker) place() string {
	switch m.pick(4) {
	case 0:
		return m.one(".", "[^a]", "[^ab]", "[^!-~]", "\\n", "\\s", "\\.", "!")
	case 1:
		return m.one("[ab]", "[a-c]", "[bc]", "[ac]", "[b-d]", "[\\n-a]", "[a\\s]")
	}
	return m.one("a", "b", "c", "d")
}

func (m maker) expression(places int) string {
	repeat := m.one("", "", "", "*", "+", "?")
	if places <= 1 {
		return m.place() + repeat
	}
	left := 1 + m.pick(places-1)
	whole := m.expression(left) + m.one("", "", "|") + m.expression(places-left)
	if m.pick(2) == 0 {
		return "(" + whole + ")" + repeat
	}
	return whole
}

func (m maker) conds() string {
	return m.one("A", "A", "A", "B", "C", "D", "AB", "BD", "ACD", "ABCD")
}

func (m maker) file(places int) string {
	rules := []string{}
	for places > 0 {
		here := 1 + m.pick(places)
		places -= here
		rules = append(rules, m.conds()+" "+m.expression(here)+" "+m.one(".", "-", "A", "B", "C", "D"))
	}
	return strings.Join(rules, "\n")
}

func TestRandomRuleFiles(t *testing.T) {
	m := maker{picker(9)}
	images := 0
	for round := range 1500 {
		if examine(t, m.file(1+round%11), m.pick) {
			images++
		}
	}
	if images < 1000 {
		t.Errorf("only %d images", images)
	}
}

func TestRandomTexts(t *testing.T) {
	const signs = "AB  \n.-ab(()|*+?[]^\\s\x00\xff"
	pick := picker(10)
	for round := range 20000 {
		text := make([]byte, pick(12))
		if round%10 == 0 {
			text = make([]byte, pick(140))
		}
		for i := range text {
			text[i] = signs[pick(len(signs))]
			if round%3 == 0 {
				text[i] = byte(pick(256))
			}
		}
		examine(t, string(text), pick)
		examine(t, "A "+string(text)+" .", pick)
	}
	texts([]string{"A ", "a", "(", ")", " .", "\n", "["}, 5, func(text string) {
		image, e := stencil.Compile(text)
		if (e == api.OK) != (image != "") {
			t.Errorf("Compile(%q) = %.20q, %d", text, image, e)
		}
	})
}
