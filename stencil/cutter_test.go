package stencil_test

import (
	"slices"
	"strings"
	"testing"

	"stencil/api"
	"stencil/stencil"
)

const quotes = "A a .\nA \" B\nB [^\"]+ .\nB \" A"

func mustOpen(t *testing.T, image string) *stencil.Cutter {
	t.Helper()
	c, e := stencil.Open(image)
	if c == nil || e != api.OK {
		t.Fatalf("Open(%.300q) = %v, %d", image, c != nil, e)
	}
	if c.Cond() != 0 {
		t.Fatalf("a new cutter by %.300q is in condition %d", image, c.Cond())
	}
	return c
}

// mustNext asks for an input's tokens, and for the condition behind it.
func mustNext(t *testing.T, c *stencil.Cutter, input string, want []api.Token, cond int) []api.Token {
	t.Helper()
	ahead := c.Cond()
	tokens, e := c.Next(input)
	if !slices.Equal(tokens, want) || e != api.OK {
		t.Errorf("in condition %d: Next(%q) = %v, %d, want %v", ahead, input, tokens, e, want)
	}
	// Twice, as to be asked must change nothing.
	if c.Cond() != cond || c.Cond() != cond {
		t.Errorf("from condition %d Next(%q) comes to %d, want %d", ahead, input, c.Cond(), cond)
	}
	return tokens
}

func mustRefuseInput(t *testing.T, c *stencil.Cutter, input string) {
	t.Helper()
	cond := c.Cond()
	tokens, e := c.Next(input)
	if tokens != nil || e != api.ErrLong || c.Cond() != cond {
		t.Errorf("in condition %d: Next of %d bytes = %v, %d, and comes to %d", cond, len(input), tokens, e, c.Cond())
	}
}

func TestDocumentCutter(t *testing.T) {
	c := mustOpen(t, mustCompile(t, quotes))
	mustNext(t, c, "a\"", told(0, 0, 1, 1, 1, 2), 1)
	mustNext(t, c, "b", told(2, 0, 1), 1)
	mustNext(t, c, "\"a", told(3, 0, 1, 0, 1, 2), 0)
}

type call struct {
	input string
	want  []api.Token
	cond  int
}

func TestCutters(t *testing.T) {
	ab := []string{"b"}
	for _, c := range []struct {
		name, image string
		calls       []call
	}{
		{"one condition", mustCompile(t, "A a ."), []call{
			{"a", told(0, 0, 1), 0}, {"aa", told(0, 0, 1, 0, 1, 2), 0}}},
		{"the empty input", mustCompile(t, quotes), []call{
			{"", told(), 0}, {"a", told(0, 0, 1), 0}, {"", told(), 0}, {"\"", told(1, 0, 1), 1},
			{"", told(), 1}, {"", told(), 1}, {"a", told(2, 0, 1), 1}}},
		{"on in another condition", mustCompile(t, "A a B\nB b C\nC c D\nD d A"), []call{
			{"a", told(0, 0, 1), 1}, {"b", told(1, 0, 1), 2}, {"c", told(2, 0, 1), 3},
			{"d", told(3, 0, 1), 0}, {"abc", told(0, 0, 1, 1, 1, 2, 2, 2, 3), 3}, {"dab", told(3, 0, 1, 0, 1, 2, 1, 2, 3), 2}}},
		{"there and back in one input", mustCompile(t, quotes), []call{
			{"\"\"", told(1, 0, 1, 3, 1, 2), 0}, {"a\"b\"a", told(0, 0, 1, 1, 1, 2, 2, 2, 3, 3, 3, 4, 0, 4, 5), 0}}},
		{"into the same condition", mustCompile(t, "A a A\nA b B\nB b B"), []call{
			{"a", told(0, 0, 1), 0}, {"b", told(1, 0, 1), 1}, {"bb", told(2, 0, 1, 2, 1, 2), 1}}},
		{"no token begins, asked again", mustCompile(t, "A a ."), []call{
			{"b", told(-1, 0, 0), 0}, {"b", told(-1, 0, 0), 0}, {"ab", told(0, 0, 1, -1, 1, 1), 0},
			{"", told(), 0}, {"aa", told(0, 0, 1, 0, 1, 2), 0}}},
		{"no token begins in the condition come to", mustCompile(t, "A a B\nB b ."), []call{
			{"aa", told(0, 0, 1, -1, 1, 1), 1}, {"a", told(-1, 0, 0), 1}, {"bab", told(1, 0, 1, -1, 1, 1), 1}, {"b", told(1, 0, 1), 1}}},
		{"no token begins behind there and back", mustCompile(t, quotes), []call{
			{"\"x\"x", told(1, 0, 1, 2, 1, 2, 3, 2, 3, -1, 3, 3), 0}, {"x\"", told(-1, 0, 0), 0}, {"\"x", told(1, 0, 1, 2, 1, 2), 1}}},
		{"a condition without rules", mustCompile(t, "A a D"), []call{
			{"a", told(0, 0, 1), 3}, {"", told(), 3}, {"a", told(-1, 0, 0), 3}, {"", told(), 3}}},
		{"the first condition without rules", mustCompile(t, "B a ."), []call{
			{"", told(), 0}, {"a", told(-1, 0, 0), 0}, {"a", told(-1, 0, 0), 0}}},
		{"what is not told", mustCompile(t, "A a -\nA b B\nB b -\nB c A"), []call{
			{"a", told(), 0}, {"aab", told(1, 2, 3), 1}, {"bb", told(), 1}, {"bcab", told(3, 1, 2, 1, 3, 4), 1}, {"ba", told(-1, 1, 1), 1}}},
		{"a token ends with its input", mustCompile(t, "A a .\nA ab ."), []call{
			{"a", told(0, 0, 1), 0}, {"b", told(-1, 0, 0), 0}, {"ab", told(1, 0, 2), 0}}},
		{"a token that is not whole is none", mustCompile(t, "A ab ."), []call{
			{"a", told(-1, 0, 0), 0}, {"b", told(-1, 0, 0), 0}, {"ab", told(0, 0, 2), 0}}},
		// What is hopeless in one input is not so in the next.
		{"hopeless", mustCompile(t, "A a|a*b ."), []call{
			{"aaaa", told(0, 0, 1, 0, 1, 2, 0, 2, 3, 0, 3, 4), 0}, {"aaab", told(0, 0, 4), 0},
			{"aaa", told(0, 0, 1, 0, 1, 2, 0, 2, 3), 0}, {"aab", told(0, 0, 3), 0}}},
		{"hopeless where the cut stood", lay([]byte{0}, ab, [][]int{{1, 0, 1}, {0, n, 1}}), []call{
			{"abb", told(0, 0, 1, -1, 1, 1), 0}, {"aaa", told(0, 0, 3), 0}, {"bb", told(-1, 0, 0), 0}, {"a", told(0, 0, 1), 0}}},
		{"hopeless in a longer input", lay([]byte{0}, ab, [][]int{{1, 0, 1}, {0, n, 1}}), []call{
			{"b", told(-1, 0, 0), 0}, {"aaaab", told(0, 0, 4, -1, 4, 4), 0}, {"aaaaa", told(0, 0, 5), 0}}},
		{"a token at state 0", lay([]byte{3, 2}, nil, [][]int{{1, 0}}, [][]int{{2, n}}), []call{
			{"aa", told(0, 0, 2), 1}, {"", told(), 1}, {"a", told(-1, 0, 0), 1}}},
		{"the last condition of four", lay([]byte{5, 3, 0}, ab, [][]int{{0, 1, n}, {1, n, n}}, [][]int{{0, 0, 1}, {3, n, 1}}, lone(1, 2), [][]int{{0, n, 1}, {2, n, n}}), []call{
			{"a", told(0, 0, 1), 3}, {"a", told(-1, 0, 0), 3}, {"b", told(1, 0, 1), 1}, {"aabba", told(2, 0, 4, -1, 4, 4), 1}}},
		{"bytes, not characters", mustCompile(t, "A .. B\nB . A"), []call{
			{"é", told(0, 0, 2), 1}, {"é", told(1, 0, 1, -1, 1, 1), 0}, {"\x00\xff\n", told(0, 0, 2, 1, 2, 3), 0}}},
	} {
		t.Run(c.name, func(t *testing.T) {
			cutter := mustOpen(t, c.image)
			for _, call := range c.calls {
				mustNext(t, cutter, call.input, call.want, call.cond)
			}
		})
	}
}

func TestLongInputsOfCutters(t *testing.T) {
	bs := strings.Repeat("b", api.MaxInput)
	c := mustOpen(t, mustCompile(t, quotes))
	mustRefuseInput(t, c, "\""+bs)
	mustNext(t, c, "\""+bs[1:], told(1, 0, 1, 2, 1, 300), 1)
	for _, long := range []string{bs + "b", "\"" + bs, bs + "\"", strings.Repeat("\"", 5000000)} {
		mustRefuseInput(t, c, long)
		mustRefuseInput(t, c, long)
		mustNext(t, c, bs, told(2, 0, 300), 1)
	}
	mustNext(t, c, "\"b", told(3, 0, 1, -1, 1, 1), 0)
	mustRefuseInput(t, c, "\""+bs)
	mustNext(t, c, "", told(), 0)
	mustNext(t, c, "a", told(0, 0, 1), 0)

	single := []api.Token{}
	for i := range api.MaxInput {
		single = append(single, api.Token{Rule: i % 2, From: i, To: i + 1})
	}
	d := mustOpen(t, mustCompile(t, "A b B\nB b A"))
	mustNext(t, d, bs, single, 0)
	mustNext(t, d, bs[1:], single[:299], 1)
}

func TestOpenRefuses(t *testing.T) {
	image := mustCompile(t, quotes)
	long := strings.Repeat("x", api.MaxImage+1)
	for _, c := range []struct {
		image string
		want  api.Errno
	}{
		{"", api.ErrImage},
		{"ST\x01", api.ErrImage},
		{quotes, api.ErrImage},
		{image[:len(image)-1], api.ErrImage},
		{image[1:], api.ErrImage},
		{image + "\x00", api.ErrImage},
		{image + image, api.ErrImage},
		{with(image, 2, 2), api.ErrImage},
		{with(image, len(image)-1, 254), api.ErrImage},
		{long[1:], api.ErrImage},
		{long, api.ErrLong},
		{image + long[len(image):], api.ErrLong},
		{strings.Repeat(long, 40), api.ErrLong},
	} {
		if cutter, e := stencil.Open(c.image); cutter != nil || e != c.want {
			t.Errorf("Open(%.20q), %d bytes: %v, %d, want %d", c.image, len(c.image), cutter != nil, e, c.want)
		}
	}
	// The greatest image that there is.
	all := [][]int{append([]int{1}, make([]int, 256)...)}
	greatest := lay([]byte{0, 0, 0, 0, 0, 0, 0, 5}, each(), append(all, lone(99, 256)...), lone(100, 256), lone(100, 256), lone(100, 256))
	mustNext(t, mustOpen(t, greatest), "abc", told(0, 0, 3), 0)
}

// Cutters by one image, and one by another, asked in turns.
func TestCuttersApart(t *testing.T) {
	image := mustCompile(t, quotes)
	c := mustOpen(t, image)
	d := mustOpen(t, image)
	mustNext(t, c, "\"", told(1, 0, 1), 1)
	if d.Cond() != 0 {
		t.Errorf("the other cutter has come to condition %d", d.Cond())
	}
	mustNext(t, d, "b", told(-1, 0, 0), 0)
	mustNext(t, c, "b", told(2, 0, 1), 1)
	e := mustOpen(t, image)
	f := mustOpen(t, mustCompile(t, "A b C"))
	mustNext(t, f, "b", told(0, 0, 1), 2)
	mustNext(t, d, "a\"a", told(0, 0, 1, 1, 1, 2, 2, 2, 3), 1)
	mustNext(t, c, "\"", told(3, 0, 1), 0)
	mustNext(t, e, "a", told(0, 0, 1), 0)
	mustNext(t, d, "a", told(2, 0, 1), 1)
	mustNext(t, f, "b", told(-1, 0, 0), 2)
	mustRefuseInput(t, d, strings.Repeat("\"", 301))
	mustNext(t, c, "a", told(0, 0, 1), 0)
	mustNext(t, e, "\"", told(1, 0, 1), 1)
}

// The other calls, refused or not, do nothing to a cutter, nor it to them.
func TestCuttersAndOtherCalls(t *testing.T) {
	image := mustCompile(t, quotes)
	c := mustOpen(t, image)
	mustNext(t, c, "\"", told(1, 0, 1), 1)
	mustScan(t, image, "a", told(0, 0, 1), 1)
	mustScan(t, image, "b", told(-1, 0, 0), 1)
	stencil.Compile("A a D")
	stencil.Compile("")
	stencil.Check(image[1:])
	stencil.Open(image[1:])
	stencil.Open(image)
	stencil.Scan(image[1:], "a")
	mustNext(t, c, "b\"", told(2, 0, 1, 3, 1, 2), 0)
	mustScan(t, image, "\"b", told(1, 0, 1, 2, 1, 2), 3)
	mustNext(t, c, "a", told(0, 0, 1), 0)
}

// Lists that came out earlier are looked at behind later calls, written to,
// and appended to.
func TestCutterTokensAreNew(t *testing.T) {
	image := mustCompile(t, "A a .\nA b -\nA c B\nB [ab] .\nB c A")
	by, _ := readTable(image)
	for _, input := range []string{"a", "aabca", "aabcac", strings.Repeat("a", 300), "x", "acx", "bb", ""} {
		cutters := []*stencil.Cutter{mustOpen(t, image), mustOpen(t, image)}
		lists := [][]api.Token{}
		wants := [][]api.Token{}
		ask := func(c *stencil.Cutter) {
			want, _, cond := by.cut(c.Cond(), input)
			lists = append(lists, mustNext(t, c, input, want, cond))
			wants = append(wants, want)
		}
		for i := range 6 {
			ask(cutters[i%2])
		}
		for i := range 6 {
			for j := i; j < len(lists); j++ {
				if !slices.Equal(lists[j], wants[j]) {
					t.Errorf("list %d of %q has become %v, want %v", j, input, lists[j], wants[j])
				}
			}
			spoil(append(lists[i], told(9, 9, 9)...))
			spoil(lists[i])
			ask(cutters[i%2])
		}
	}
}

// asked is a cutter, with the image and the condition that it must have.
type asked struct {
	cutter *stencil.Cutter
	image  string
	table  table
	cond   int
}

// ask compares one Next with the tests' own cuts.
func (a *asked) ask(t *testing.T, input string) []api.Token {
	t.Helper()
	want, _, end := a.table.cut(a.cond, input)
	other, also := longest(a.cond, input, a.table.behind, a.table.walk)
	if !slices.Equal(want, other) || end != also {
		t.Errorf("the tests themselves cut %q into %v up to %d and %v up to %d", input, want, end, other, also)
	}
	if a.cutter.Cond() != a.cond {
		t.Errorf("a cutter by %.300q is in condition %d, want %d", a.image, a.cutter.Cond(), a.cond)
	}
	tokens := mustNext(t, a.cutter, input, want, end)
	a.cond = end
	return tokens
}

// inTurns asks cutters by some images, three by each, in no order.
func inTurns(t *testing.T, pick func(int) int, bytes string, images ...string) {
	t.Helper()
	all := []asked{}
	for _, image := range images {
		by, _ := readTable(image)
		for range 3 {
			all = append(all, asked{mustOpen(t, image), image, by, 0})
		}
	}
	for range 8 * len(all) {
		a := &all[pick(len(all))]
		if pick(12) == 0 {
			mustRefuseInput(t, a.cutter, strings.Repeat(bytes[:1], 301+pick(3)))
		}
		spoil(a.ask(t, randomInput(pick, pick(12), bytes)))
	}
}

func TestRandomCutters(t *testing.T) {
	m := maker{picker(15)}
	conds := 0
	for round := range 500 {
		images := []string{}
		for i := range 2 {
			image, e := stencil.Compile(m.file(1 + (round+5*i)%10))
			if e == api.OK {
				images = append(images, image)
				by, _ := readTable(image)
				conds = max(conds, len(by.conds))
			}
		}
		inTurns(t, m.pick, "aaabbbccd \n.!\x00\xff", images...)
	}
	if conds != api.MaxConds {
		t.Errorf("no more than %d conditions", conds)
	}
}

func TestRandomCuttersByOtherImages(t *testing.T) {
	pick := picker(16)
	for round := range 1500 {
		classes := 1 + round%5
		inTurns(t, pick, "abcdef"[:classes], randomTables(pick, classes), randomTables(pick, classes))
	}
}
