package stencil_test

import (
	"strings"
	"testing"

	"stencil/api"
	"stencil/stencil"
)

func mustRefuse(t *testing.T, rules string, want api.Errno) {
	t.Helper()
	image, e := stencil.Compile(rules)
	if image != "" || e != want {
		t.Errorf("Compile(%.130q) = %.20q, %d, want error %d", rules, image, e, want)
	}
}

// mustHave asks for an image with these numbers of states.
func mustHave(t *testing.T, rules string, states ...int) {
	t.Helper()
	examine(t, rules, picker(3))
	image, e := stencil.Compile(rules)
	got, _ := readTable(image)
	if e != api.OK || len(got.conds) != len(states) {
		t.Errorf("Compile(%q): %d, %d conditions, want %d", rules, e, len(got.conds), len(states))
		return
	}
	for c, want := range states {
		if len(got.conds[c]) != want {
			t.Errorf("Compile(%q): condition %d has %d states, want %d", rules, c, len(got.conds[c]), want)
		}
	}
}

func TestDocumentErrors(t *testing.T) {
	for _, rules := range []string{"", "A a", "A  .", "a a .", "BA a .", "AA a .", "A a .\n", "A a ,", "A a** .", "A [b-a] .", "A \\a ."} {
		mustRefuse(t, rules, api.ErrText)
	}
	mustRefuse(t, "A abcdefghijk .", api.ErrPlaces)
}

func TestLongTexts(t *testing.T) {
	for _, c := range []struct{ before, middle, after string }{
		{"A [", "a", "] ."}, {"A [^", "a", "] ."}, {"A a .\nB [", "x", "] D"},
	} {
		longest := c.before + strings.Repeat(c.middle, api.MaxText-len(c.before)-len(c.after)) + c.after
		examine(t, longest, picker(4))
		if _, e := stencil.Compile(longest); len(longest) != 120 || e != api.OK {
			t.Errorf("a text of %d bytes: %d", len(longest), e)
		}
		mustRefuse(t, strings.Replace(longest, "[", "[b", 1), api.ErrLong)
	}
	nested := func(depth int) string {
		return "A " + strings.Repeat("(", depth) + "a" + strings.Repeat(")", depth) + " ."
	}
	mustBe(t, nested(57), lay([]byte{0}, []string{"a"}, once))
	mustRefuse(t, nested(58), api.ErrLong)
	mustRefuse(t, nested(2000000), api.ErrLong)
	for _, s := range []string{"(", ")", "[", "a", "\n", " ", "\\", "A", "|", "*", "\x00", "\xff", "A a .\n", "^", "-"} {
		mustRefuse(t, strings.Repeat(s, 4000000), api.ErrLong)
		mustRefuse(t, "A "+strings.Repeat(s, 4000000), api.ErrLong)
		mustRefuse(t, strings.Repeat(s, 121), api.ErrLong)
		whole := strings.Repeat(s, 120/len(s))
		mustRefuse(t, whole, api.ErrText)
		mustRefuse(t, whole[:115]+" .", api.ErrText)
	}
	for _, s := range []string{"(", "[", "\\", "|", "*", "((a|b)*", ")"} {
		mustRefuse(t, "A "+strings.Repeat(s, 118/len(s)), api.ErrText)
		mustRefuse(t, "A "+strings.Repeat(s, 115/len(s))+" .", api.ErrText)
	}
}

func TestRuleCount(t *testing.T) {
	eight := strings.Repeat("A a .\n", 7) + "B b -"
	mustBe(t, eight, lay([]byte{0, 0, 0, 0, 0, 0, 0, 1}, []string{"a", "b"},
		[][]int{{0, n, 1, n}, {1, n, n, n}}, [][]int{{0, n, n, 1}, {8, n, n, n}}))
	mustRefuse(t, eight+"\nA c .", api.ErrText)
	mustRefuse(t, strings.Repeat("A ab .\n", 8)+"A c .", api.ErrText)
}

func TestPlaceCount(t *testing.T) {
	for _, p := range []string{"a", ".", "[ab]", "[^ab]", "\\n", "\\.", "(a)", "a?", "a*", "(a|b)", "a(b)"} {
		ten := strings.Repeat(p, 10)
		if strings.Contains(p, "b)") {
			ten = strings.Repeat(p, 5)
		}
		examine(t, "A "+ten+" .", picker(5))
		if _, e := stencil.Compile("A " + ten + " ."); e != api.OK {
			t.Errorf("%q: %d", ten, e)
		}
		mustRefuse(t, "A "+ten+"a .", api.ErrPlaces)
		mustRefuse(t, "A "+ten+" .\nB a .", api.ErrPlaces)
		mustRefuse(t, "A a|"+ten+" .", api.ErrPlaces)
		mustRefuse(t, "A (((a))) .\nC "+ten+" D", api.ErrPlaces)
	}
	mustRefuse(t, "A "+strings.Repeat("a", 116)+" .", api.ErrPlaces)
	mustRefuse(t, "A "+strings.Repeat("a*", 58)+" .", api.ErrPlaces)
	mustHave(t, "A abcdefghij .", 11)
	mustHave(t, "A abcde .\nB fghij .", 6, 6)
}

// A file of 99 states; a byte that must come ahead of all adds one, and so
// does, behind that, one more token of another byte.
func TestStateCount(t *testing.T) {
	const many = "[ab]*b[ab][ab][ab][ab][abc][ac]"
	mustHave(t, "A "+many+" .", 99)
	mustHave(t, "A c"+many+" .", 100)
	mustRefuse(t, "A cc"+many+" .", api.ErrStates)
	mustRefuse(t, "A c"+many+" .\nA d .", api.ErrStates)
	mustRefuse(t, "D cc"+many+" .", api.ErrStates)
	mustRefuse(t, "ABCD c"+many+" .\nD d .", api.ErrStates)
	mustRefuse(t, "ABCD c"+many+" .\nB d .", api.ErrStates)
	mustHave(t, "ABC c"+many+" .\nD d .", 100, 100, 100, 2)
	mustHave(t, "BD c"+many+" A", 1, 100, 1, 100)
	mustHave(t, "A [ab]*a[ab][ab][ab][ab][ab] .", 64)
	mustRefuse(t, "A [ab]*a[ab][ab][ab][ab][ab][ab] .", api.ErrStates)
	mustRefuse(t, "A [ab]*a[ab][ab][ab][ab][ab][ab][ab][ab] .", api.ErrStates)
	// Only what is left when all that is alike is one counts.
	mustHave(t, "A [ab]*a[ab][ab][ab][ab][ab][ab]|[ab]* .", 2)
	mustHave(t, "A [ab]* .\nA [ab]*a[ab][ab][ab][ab][ab][ab] .", 2)
}

// Of several errors the one that is named first is answered.
func TestErrorOrder(t *testing.T) {
	const states = "A [ab]*a[ab][ab][ab][ab][ab][ab] ."
	mustRefuse(t, strings.Repeat("A a ,\n", 21), api.ErrLong)
	mustRefuse(t, "A "+strings.Repeat("a", 117)+" .", api.ErrLong)
	mustRefuse(t, "A [ab]*a[ab][ab][ab][ab][ab][ab"+strings.Repeat("b", 120)+"] .", api.ErrLong)
	mustRefuse(t, "A abcdefghijk ,", api.ErrText)
	mustRefuse(t, "A abcdefghijk* .\n", api.ErrText)
	mustRefuse(t, "A abcdefghijk .\nA a** .", api.ErrText)
	mustRefuse(t, "A (abcdefghijk .", api.ErrText)
	mustRefuse(t, "A abcdefghijk[b-a] .", api.ErrText)
	mustRefuse(t, states+"\nA a", api.ErrText)
	mustRefuse(t, "A a\n"+states, api.ErrText)
	mustRefuse(t, states+"\nA abc .", api.ErrPlaces)
	mustRefuse(t, "B abc .\n"+states, api.ErrPlaces)
	mustRefuse(t, states, api.ErrStates)
}

func TestNoRuleFiles(t *testing.T) {
	for _, rules := range []string{
		"A", "A ", " ", "\n", "\n\n", " a .", "A a . ", "A a .\n\nB b .", "\nA a .", "A a .\r\nB b .", "A a .\nB", "A a .B b .", "A a . B b .",
		"E a .", "@ a .", "AE a .", "ABCDA a .", "ABCDD a .", "ACB a .", "A,B a .", "A B a .", "Aa a .",
		"A a E", "A a @", "A a a", "A a AB", "A a .-", "A a", "A a  .", "A  a .", "A\ta .", "A a\t.", "A .", "A a.", "Aa .",
		"A * .", "A + .", "A ? .", "A | .", "A ( .", "A ) .", "A [ .", "A ] .", "A \\ .", "A () .", "A (*) .", "A (|) .", "A [] .", "A [^] .",
		"A a*? .", "A a?+ .", "A a++ .", "A (a)** .", "A a|* .", "A (*a) .", "A a|b| .", "A |a|b .", "A a(|b) .", "A a(b|) .", "A ((a) .", "A (a)) .", "A )a( .",
		"A [a-b-c] .", "A [-a] .", "A [a-] .", "A [-] .", "A [--a] .", "A [^-a] .", "A [a^b] .", "A [^^] .", "A [a-^] .", "A [^a^] .", "A [~-!] .", "A [!-\\n] .", "A [a-\\n] .", "A [a-\\s] .", "A [\\s-\\n] .",
		"A [a]] .", "A [a .", "A [a\\] .", "A [^] a] .", "A [ ] .", "A [a\n] .", "A [\x1f] .", "A [\x7f] .", "A [\x00-\xff] .",
		"A \\N .", "A \\S .", "A \\t .", "A \\0 .", "A \\9 .", "A \\z .", "A \\\x7f .", "A \\\x80 .", "A \\\n .", "A \\  .", "A [\\a] .", "A [\\  ] .",
	} {
		mustRefuse(t, rules, api.ErrText)
		examine(t, rules, picker(6))
	}
}
