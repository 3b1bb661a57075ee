package stencil_test

import (
	"slices"
	"strings"
	"testing"

	"stencil/api"
	"stencil/stencil"
)

// told makes tokens of three numbers each.
func told(numbers ...int) []api.Token {
	list := []api.Token{}
	for three := range slices.Chunk(numbers, 3) {
		list = append(list, api.Token{Rule: three[0], From: three[1], To: three[2]})
	}
	return list
}

func mustScan(t *testing.T, image, input string, want []api.Token, steps int) {
	t.Helper()
	tokens, count, e := stencil.Scan(image, input)
	if !slices.Equal(tokens, want) || count != steps || e != api.OK {
		t.Errorf("Scan(%.300q, %q) = %v, %d, %d, want %v, %d", image, input, tokens, count, e, want, steps)
	}
}

func mustCompile(t *testing.T, rules string) string {
	t.Helper()
	image, e := stencil.Compile(rules)
	if e != api.OK {
		t.Fatalf("Compile(%q): %d", rules, e)
	}
	return image
}

func TestDocumentCuts(t *testing.T) {
	mustScan(t, mustCompile(t, "A if .\nA [a-z]+ .\nA \\s -"), "if iff", told(0, 0, 2, 1, 3, 6), 8)
	mustScan(t, mustCompile(t, "A a|a*b ."), "aaaa", told(0, 0, 1, 0, 1, 2, 0, 2, 3, 0, 3, 4), 9)
	image := mustCompile(t, quotes)
	mustScan(t, image, `a"b"a`, told(0, 0, 1, 1, 1, 2, 2, 2, 3, 3, 3, 4, 0, 4, 5), 9)
	mustScan(t, image, `"`, told(1, 0, 1), 1)
	mustScan(t, image, "ab", told(0, 0, 1, -1, 1, 1), 3)
}

// The steps are counted by hand: those of each look, from place to place.
func TestCuts(t *testing.T) {
	for _, c := range []struct {
		name, rules, input string
		want               []api.Token
		steps              int
	}{
		{"an empty input", "A a .", "", told(), 0},
		{"a byte that leads nowhere is a step", "A a .", "b", told(-1, 0, 0), 1},
		{"the end is none", "A a .", "a", told(0, 0, 1), 1},
		{"behind a token the next", "A a .", "aa", told(0, 0, 1, 0, 1, 2), 2 + 1},
		{"the cut ends where no token begins", "A a .", "abaa", told(0, 0, 1, -1, 1, 1), 2 + 1},
		{"a token that is not whole", "A abc .", "ab", told(-1, 0, 0), 2},
		{"the longest", "A a .\nA ab .\nA abc .", "abcab", told(2, 0, 3, 1, 3, 5), 4 + 2},
		{"the longest, not the first", "A a .\nA [ab]+ .", "abba", told(1, 0, 4), 4},
		{"the first of two", "A [a-z]+ .\nA if .", "if", told(0, 0, 2), 2},
		{"back to the longest", "A a .\nA b .\nA abc .", "abab", told(0, 0, 1, 1, 1, 2, 0, 2, 3, 1, 3, 4), 3 + 2 + 2 + 1},
		{"every byte", "A [^a] .", "\x00\n\xff\x80", told(0, 0, 1, 0, 1, 2, 0, 2, 3, 0, 3, 4), 2 + 2 + 2 + 1},
		{"bytes, not characters", "A .. .", "éa", told(0, 0, 2, -1, 2, 2), 3 + 1},

		{"nothing is told", "A a -", "aaa", told(), 2 + 2 + 1},
		{"nothing is told but the end", "A a -", "aab", told(-1, 2, 2), 2 + 2 + 1},
		{"told and not told", "A a -\nA b .", "abab", told(1, 1, 2, 1, 3, 4), 2 + 2 + 2 + 1},
		{"not told leaves the condition", "A a B\nB b -\nB c .", "abbc", told(0, 0, 1, 2, 3, 4), 2 + 2 + 2 + 1},
		{"told leaves the condition", "A a B\nB b .", "abb", told(0, 0, 1, 1, 1, 2, 1, 2, 3), 2 + 2 + 1},

		{"a condition without rules", "A a D", "aa", told(0, 0, 1, -1, 1, 1), 2 + 1},
		{"the first condition without rules", "B a .", "a", told(-1, 0, 0), 1},
		{"the same condition", "A a A", "aa", told(0, 0, 1, 0, 1, 2), 2 + 1},
		{"round through all", "A a B\nB a C\nC a D\nD a A", "aaaaa", told(0, 0, 1, 1, 1, 2, 2, 2, 3, 3, 3, 4, 0, 4, 5), 2 + 2 + 2 + 2 + 1},
		{"from one to the last", "A a D\nD b A", "abab", told(0, 0, 1, 1, 1, 2, 0, 2, 3, 1, 3, 4), 2 + 2 + 2 + 1},

		// From 0 the state of a at 1 and that of ab at 2 are hopeless; those
		// from 1 and from 2 stand in others there.
		{"hopeless in one state", "A a|abc .\nA b .", "abb", told(0, 0, 1, 1, 1, 2, 1, 2, 3), 3 + 2 + 1},
		{"nothing to be found", "A b .\nA a+c .", "aab", told(-1, 0, 0), 3},
		{"hopeless, five of them", "A a|a*b .", "aaaaa", told(0, 0, 1, 0, 1, 2, 0, 2, 3, 0, 3, 4, 0, 4, 5), 5 + 2 + 2 + 2 + 1},
		{"hopeless behind what is not told", "A a|a*b -", "aaaa", told(), 4 + 2 + 2 + 1},
		{"hopeless ends ahead of nowhere", "A a|a*b .\nA c .", "aaac", told(0, 0, 1, 0, 1, 2, 0, 2, 3, 1, 3, 4), 4 + 2 + 2 + 1},
		// From 0 all seven; the token ends at 2. From 2 the token ends at 4, and
		// behind one step more it stands where that from 0 stood at 5. From 4
		// the token ends at 6, and one step more comes to the end.
		{"hopeless a step behind a token", "A ab|(ab)*c .", "abababa", told(0, 0, 2, 0, 2, 4, 0, 4, 6, -1, 6, 6), 7 + 3 + 3 + 1},
		// From 0 the tokens a and ab are met, and b twice in vain.
		{"two tokens so far", "A a|ab|ab*c .\nA b .", "abbb", told(0, 0, 2, 1, 2, 3, 1, 3, 4), 4 + 2 + 1},
		// In A from 0: five, hopeless at 1 to 4. In B from 1: four, as nothing
		// is hopeless there. Back in A from 2: the second is at 4. In B from 3:
		// the second comes to the end. In A from 4: one.
		{"hopeless in one condition", "A a|a*b B\nB a|a*b A", "aaaaa", told(0, 0, 1, 1, 1, 2, 0, 2, 3, 1, 3, 4, 0, 4, 5), 5 + 4 + 2 + 2 + 1},
	} {
		t.Run(c.name, func(t *testing.T) { mustScan(t, mustCompile(t, c.rules), c.input, c.want, c.steps) })
	}
}

// Images of no rule file. The steps are counted by hand.
func TestCutsByOtherImages(t *testing.T) {
	ab := []string{"b"}
	for _, c := range []struct {
		name, image, input string
		want               []api.Token
		steps              int
	}{
		{"no token at state 0 until a byte leads there", lay([]byte{0}, nil, [][]int{{1, n}}), "a", told(-1, 0, 0), 1},
		{"a token at state 0", lay([]byte{0}, nil, [][]int{{1, 0}}), "aaa", told(0, 0, 3), 3},
		{"round and round without a token", lay([]byte{0}, nil, [][]int{{0, 0}}), "aaa", told(-1, 0, 0), 3},
		{"on and on without a token", lay([]byte{0}, nil, [][]int{{0, 1}, {0, 1}}), "aaa", told(-1, 0, 0), 3},
		// From 0: a leads back to state 0, a token's, at 1; b and b find no
		// more, so state 0 is hopeless at 1, where the cut then stands.
		{"hopeless where the cut stands", lay([]byte{0}, ab, [][]int{{1, 0, 1}, {0, n, 1}}), "abb", told(0, 0, 1, -1, 1, 1), 3},
		{"hopeless where the cut stands, untold", lay([]byte{1}, ab, [][]int{{1, 0, 1}, {0, n, 1}}), "abb", told(-1, 1, 1), 3},
		// The same, but the cut stands at 1 in another condition.
		{"hopeless in the condition ahead", lay([]byte{3}, ab, [][]int{{1, 0, 1}, {0, n, 1}}, [][]int{{1, 0, 0}}), "abb", told(0, 0, 1, 0, 1, 3), 3 + 2},
		{"there and back", lay([]byte{3, 2}, ab, [][]int{{0, 1, 0}, {1, n, n}}, [][]int{{2, n, 0}}), "bababaa",
			told(0, 0, 2, 1, 2, 3, 0, 3, 4, 1, 4, 5, 0, 5, 6, -1, 6, 6), 3 + 2 + 2 + 2 + 2 + 1},
		{"the last rule, the last state, the last condition", lay([]byte{0, 1, 0, 1, 0, 1, 0, 5}, ab,
			append(append([][]int{{0, 99, n}}, lone(98, 2)...), []int{8, n, n}), lone(1, 2), lone(1, 2), [][]int{{0, n, 1}, {8, n, n}}),
			"abba", told(7, 0, 1, 7, 1, 2, 7, 2, 3, -1, 3, 3), 2 + 2 + 2 + 1},
		{"the other conditions do nothing", lay([]byte{0}, nil, [][]int{{0, 1}, {1, n}}, [][]int{{1, 0}}), "aa", told(0, 0, 1, 0, 1, 2), 2 + 1},
		{"classes by bytes", lay([]byte{0, 0}, []string{"\x00\xff", "\x01\xfe"}, [][]int{{0, n, 1, 2}, {1, n, n, n}, {2, n, n, n}}),
			"\x00\x01\xfe\xff\x02", told(0, 0, 1, 1, 1, 2, 1, 2, 3, 0, 3, 4, -1, 4, 4), 2 + 2 + 2 + 2 + 1},
	} {
		t.Run(c.name, func(t *testing.T) { mustScan(t, c.image, c.input, c.want, c.steps) })
	}
}

func TestLongInputs(t *testing.T) {
	as := strings.Repeat("a", api.MaxInput)
	image := mustCompile(t, "A a+ .")
	mustScan(t, image, as, told(0, 0, 300), 300)
	mustScan(t, mustCompile(t, "A a -"), as, told(), 2*300-1)
	mustScan(t, mustCompile(t, "A b ."), as, told(-1, 0, 0), 1)
	single := []api.Token{}
	for i := range api.MaxInput {
		single = append(single, api.Token{Rule: 0, From: i, To: i + 1})
	}
	mustScan(t, mustCompile(t, "A a ."), as, single, 2*300-1)
	mustScan(t, mustCompile(t, "A a|a*b ."), as, single, 300+2*298+1)
	long := strings.Repeat("x", api.MaxImage+1)
	for _, c := range []struct {
		image, input string
		want         api.Errno
	}{
		{image, as + "a", api.ErrLong},
		{image, strings.Repeat("a", 5000000), api.ErrLong},
		{"", as + "a", api.ErrLong},
		{long[1:], as + "a", api.ErrLong},
		{long, "", api.ErrLong},
		{long, as, api.ErrLong},
		{long, as + "a", api.ErrLong},
		{"", as, api.ErrImage},
		{long[1:], as, api.ErrImage},
		{"", "", api.ErrImage},
		{image + "x", "", api.ErrImage},
	} {
		tokens, steps, e := stencil.Scan(c.image, c.input)
		if tokens != nil || steps != 0 || e != c.want {
			t.Errorf("Scan of %d bytes by %d bytes: %v, %d, %d, want %d", len(c.input), len(c.image), tokens, steps, e, c.want)
		}
	}
}

type standing struct{ cond, state, place int }

// cut is the tests' own cut, word by word as the document has it. It tells the
// tokens, the steps, and the condition in which it ends.
func (t table) cut(cond int, input string) ([]api.Token, int, int) {
	tokens := []api.Token{}
	hopeless := map[standing]bool{}
	steps := 0
	for p := 0; p < len(input); {
		now := standing{cond, 0, p}
		ahead := []standing{}
		found := api.Token{Rule: api.NoRule, From: p, To: p}
		for now.place < len(input) && !hopeless[now] {
			steps++
			ahead = append(ahead, now)
			now.state = t.conds[cond][now.state].next[t.classOf[input[now.place]]]
			if now.state == nowhere {
				break
			}
			now.place++
			if token := t.conds[cond][now.state].token; token != 0 {
				found.Rule = token - 1
				found.To = now.place
				ahead = nil
			}
		}
		for _, s := range ahead {
			hopeless[s] = true
		}
		if found.Rule == api.NoRule || t.behind[found.Rule] != 1 {
			tokens = append(tokens, found)
		}
		if found.Rule == api.NoRule {
			break
		}
		if behind := t.behind[found.Rule]; behind > 1 {
			cond = behind - 2
		}
		p = found.To
	}
	return tokens, steps, cond
}

// longest tells the tokens of a cut that tries all texts, and the condition in
// which it ends; it knows nothing of steps.
func longest(cond int, input string, behind []int, token func(cond int, text string) int) ([]api.Token, int) {
	tokens := []api.Token{}
	for p := 0; p < len(input); {
		q := len(input)
		for q > p && token(cond, input[p:q]) == 0 {
			q--
		}
		if q == p {
			return append(tokens, api.Token{Rule: api.NoRule, From: p, To: p}), cond
		}
		rule := token(cond, input[p:q]) - 1
		if behind[rule] != 1 {
			tokens = append(tokens, api.Token{Rule: rule, From: p, To: q})
		}
		if behind[rule] > 1 {
			cond = behind[rule] - 2
		}
		p = q
	}
	return tokens, cond
}

// compare cuts an input in three ways.
func compare(t *testing.T, name, image, input string) {
	t.Helper()
	by, _ := readTable(image)
	tokens, steps, cond := by.cut(0, input)
	mustScan(t, image, input, tokens, steps)
	if want, end := longest(0, input, by.behind, by.walk); !slices.Equal(tokens, want) || cond != end {
		t.Errorf("%s: the tests themselves cut %q into %v up to %d, want %v up to %d", name, input, tokens, cond, want, end)
	}
	all := 1
	for _, states := range by.conds {
		all += len(states)
	}
	if steps > all*len(input) {
		t.Errorf("%s: %d steps for %q", name, steps, input)
	}
}

func randomInput(pick func(int) int, length int, bytes string) string {
	input := make([]byte, length)
	for i := range input {
		input[i] = bytes[pick(len(bytes))]
	}
	return string(input)
}

func TestRandomCuts(t *testing.T) {
	m := maker{picker(13)}
	for round := range 600 {
		rules := m.file(1 + round%10)
		image, e := stencil.Compile(rules)
		if e != api.OK {
			continue
		}
		file, _ := readModel(rules)
		for range 8 {
			input := randomInput(m.pick, m.pick(16), "aaabbbccd \n.!\x00\xff")
			compare(t, rules, image, input)
			behind := []int{}
			for _, rule := range file.rules {
				behind = append(behind, rule.behind)
			}
			tokens, _, _ := stencil.Scan(image, input)
			if want, _ := longest(0, input, behind, file.token); !slices.Equal(tokens, want) {
				t.Errorf("%q: the cut of %q is %v, want %v", rules, input, tokens, want)
			}
		}
	}
}

// randomTables makes an image with no thought of a rule file.
func randomTables(pick func(int) int, classes int) string {
	conds := make([][][]int, 1+pick(api.MaxConds))
	behind := make([]byte, 1+pick(api.MaxRules))
	for i := range behind {
		behind[i] = byte(pick(2 + len(conds)))
	}
	for c := range conds {
		conds[c] = make([][]int, 1+pick(6))
		for s := range conds[c] {
			token := max(0, pick(2*len(behind))-len(behind)+1)
			conds[c][s] = []int{token}
			for range classes {
				conds[c][s] = append(conds[c][s], min(pick(2*len(conds[c])), len(conds[c]))-1)
			}
		}
	}
	return lay(behind, strings.Split("bcdefg", "")[:classes-1], conds...)
}

func TestRandomCutsByOtherImages(t *testing.T) {
	pick := picker(14)
	for round := range 4000 {
		classes := 1 + round%5
		image := randomTables(pick, classes)
		mustCheck(t, "at random", image, api.OK)
		for range 3 {
			compare(t, "at random", image, randomInput(pick, pick(20), "abcdef"[:classes]))
		}
		compare(t, "at random", image, randomInput(pick, 60, "aaaaaaaab"))
	}
}

// An image that walks all its states before it finds that there is no token.
func TestManySteps(t *testing.T) {
	states := [][]int{{0, 1}, {1, 2}}
	for s := 2; s < api.MaxStates; s++ {
		states = append(states, []int{0, 2 + (s-1)%(api.MaxStates-2)})
	}
	image := lay([]byte{0}, nil, states)
	input := strings.Repeat("a", api.MaxInput)
	compare(t, "many steps", image, input)
	_, steps, _ := stencil.Scan(image, input)
	if steps > (api.MaxStates+1)*api.MaxInput || steps < 10000 {
		t.Errorf("%d steps", steps)
	}
}

// spoil writes into all of a list, its spare room too.
func spoil(list []api.Token) {
	list = list[:cap(list)]
	for i := range list {
		list[i] = api.Token{Rule: 9, From: 9, To: 9}
	}
}

// What was answered is the caller's, with its spare room.
func TestTokensAreNew(t *testing.T) {
	image := mustCompile(t, "A a .\nA b -\nA c A")
	for _, input := range []string{"a", "aabca", strings.Repeat("a", 300), "x", "acx", ""} {
		want, steps, _ := stencil.Scan(image, input)
		want = slices.Clone(want)
		first, _, _ := stencil.Scan(image, input)
		second, _, _ := stencil.Scan(image, input)
		spoil(first)
		if !slices.Equal(second, want) {
			t.Errorf("the cut of %q has become %v, want %v", input, second, want)
		}
		mustScan(t, image, input, want, steps)
		stencil.Scan("", input)
		stencil.Check(image[1:])
		mustScan(t, image, input, want, steps)
	}
}
