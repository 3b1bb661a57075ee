package stencil_test

import (
	"fmt"
	"slices"
	"strings"
	"testing"

	"stencil/api"
	"stencil/stencil"
)

// isImage is the tests' own reading of what an image at all is.
func isImage(text string) bool {
	t, whole := readTable(text)
	if !whole || len(t.behind) < 1 || len(t.behind) > 8 || len(t.conds) < 1 || len(t.conds) > 4 {
		return false
	}
	if slices.Max(t.behind) > 1+len(t.conds) || slices.Max(t.classOf[:]) >= t.classes {
		return false
	}
	for c := range t.conds {
		if t.faultInNumbers(c) != "" {
			return false
		}
	}
	return true
}

// mustCheck asks Check, and Scan and Open with it, for an error or for none.
func mustCheck(t *testing.T, name, image string, want api.Errno) {
	t.Helper()
	if e := stencil.Check(image); e != want {
		t.Errorf("%s: Check(%.300q) = %d, want %d (%d bytes)", name, image, e, want, len(image))
	}
	tokens, steps, e := stencil.Scan(image, "ab")
	if e != want || want != api.OK && (tokens != nil || steps != 0) {
		t.Errorf("%s: Scan(%.300q, ab) = %v, %d, %d, want %d", name, image, tokens, steps, e, want)
	}
	cutter, e := stencil.Open(image)
	if e != want || (cutter != nil) != (want == api.OK) {
		t.Errorf("%s: Open(%.300q) = %v, %d, want %d", name, image, cutter != nil, e, want)
	}
	if cutter != nil && cutter.Cond() != 0 {
		t.Errorf("%s: a new cutter is in condition %d", name, cutter.Cond())
	}
}

// with puts a byte in place of another.
func with(text string, at int, b byte) string {
	return text[:at] + string([]byte{b}) + text[at+1:]
}

// lone makes so many states that lead nowhere.
func lone(count, classes int) [][]int {
	return slices.Repeat([][]int{append([]int{0}, slices.Repeat([]int{n}, classes)...)}, count)
}

// each makes 255 classes beside class 0, of one byte each.
func each() []string {
	list := []string{}
	for b := 1; b < 256; b++ {
		list = append(list, string([]byte{byte(b)}))
	}
	return list
}

// Where the numbers stand in an image of one rule.
const (
	ruleCount  = 3
	ruleByte   = 4
	condCount  = 5
	classCount = 6
	classBytes = 7
	stateCount = 263
	tokenByte  = 264
	leadByte   = 265
)

func TestImagesAtAll(t *testing.T) {
	ab := []string{"a"}
	for _, c := range []struct{ name, image string }{
		{"the least", lay([]byte{0}, nil, lone(1, 1))},
		{"the greatest", lay([]byte{0, 1, 2, 3, 4, 5, 5, 5}, each(), lone(100, 256), lone(100, 256), lone(100, 256), lone(100, 256))},
		{"the highest rule's byte for one condition", lay([]byte{2}, nil, lone(1, 1))},
		{"the highest rule's byte for two", lay([]byte{3, 0}, nil, lone(1, 1), lone(1, 1))},
		{"the highest rule's byte for four", lay([]byte{5, 5}, nil, lone(1, 1), lone(1, 1), lone(1, 1), lone(1, 1))},
		{"more conditions than are asked for", lay([]byte{1}, nil, lone(1, 1), lone(2, 1), lone(3, 1))},
		{"classes without bytes", with(lay([]byte{0}, ab, lone(1, 2)), classBytes+'a', 0)},
		{"classes not by their lowest bytes", with(lay([]byte{0}, ab, lone(1, 2)), classBytes, 1)},
		{"classes that lead alike", lay([]byte{0}, []string{"a", "b"}, [][]int{{0, n, 1, 1}, {1, n, n, n}})},
		{"a token at state 0", lay([]byte{0}, ab, [][]int{{1, 0, n}})},
		{"states that are alike", lay([]byte{0}, ab, [][]int{{0, 1, 2}, {1, n, n}, {1, n, n}})},
		{"states that lead to no token", lay([]byte{0}, ab, [][]int{{0, 1, 0}, {0, 0, 1}})},
		{"states to which nothing leads", lay([]byte{0}, ab, [][]int{{0, n, n}, {1, 2, 1}, {1, 0, 2}})},
		{"states not by their earliest texts", lay([]byte{0, 0}, []string{"a", "b"}, [][]int{{0, n, 2, 1}, {1, n, n, n}, {2, n, n, n}})},
		{"the last state, the last rule", lay([]byte{0, 0, 0}, ab, append([][]int{{3, 99, 99}}, lone(99, 2)...))},
	} {
		if !isImage(c.image) {
			t.Errorf("%s: the tests themselves do not take it for an image", c.name)
		}
		mustCheck(t, c.name, c.image, api.OK)
		mustCheck(t, c.name+", and a byte", c.image+"\x00", api.ErrImage)
		mustCheck(t, c.name+", and another", c.image+"\xff", api.ErrImage)
		mustCheck(t, c.name+", cut short", c.image[:len(c.image)-1], api.ErrImage)
		mustCheck(t, c.name+", twice", c.image+c.image, errorOf(2*len(c.image)))
	}
}

// errorOf tells the error of a text of so many bytes that is no image.
func errorOf(length int) api.Errno {
	if length > api.MaxImage {
		return api.ErrLong
	}
	return api.ErrImage
}

func TestNoImages(t *testing.T) {
	one := lay([]byte{0}, nil, lone(1, 1))
	for _, c := range []struct{ name, image string }{
		{"nothing", ""},
		{"a rule file", "A a ."},
		{"not S", with(one, 0, 's')},
		{"not T", with(one, 1, 't')},
		{"not 1", with(one, 2, 0)},
		{"another version", with(one, 2, 2)},
		{"no rules", lay(nil, nil, lone(1, 1))},
		{"9 rules", lay(make([]byte, 9), nil, lone(1, 1))},
		{"255 rules", lay(make([]byte, 255), nil, lone(1, 1))},
		{"a rule's byte above one condition", with(one, ruleByte, 3)},
		{"a rule's byte above all", with(one, ruleByte, 255)},
		{"the last rule's byte above two conditions", lay([]byte{3, 4}, nil, lone(1, 1), lone(1, 1))},
		{"the first rule's byte above three", lay([]byte{5, 4}, nil, lone(1, 1), lone(1, 1), lone(1, 1))},
		{"a rule's byte above four", lay([]byte{6}, nil, lone(1, 1), lone(1, 1), lone(1, 1), lone(1, 1))},
		{"no conditions", lay([]byte{0}, nil)},
		{"5 conditions", lay([]byte{0}, nil, lone(1, 1), lone(1, 1), lone(1, 1), lone(1, 1), lone(1, 1))},
		{"a condition too few", with(one, condCount, 2)},
		{"a condition too many", with(lay([]byte{0}, nil, lone(1, 1), lone(1, 1)), condCount, 1)},
		{"a class too many", with(one, classCount, 1)},
		{"the first byte's class", with(one, classBytes, 1)},
		{"the last byte's class", with(one, classBytes+255, 1)},
		{"the last byte's class, of two", with(lay([]byte{0}, []string{"a"}, lone(1, 2)), classBytes+255, 2)},
		{"a class of nowhere", with(lay([]byte{0}, each()[:254], lone(1, 255)), classBytes+255, 255)},
		{"no states", lay([]byte{0}, nil, lone(0, 1))},
		{"no states in the last condition", lay([]byte{0}, nil, lone(1, 1), lone(0, 1))},
		{"101 states", lay([]byte{0}, nil, lone(101, 1))},
		{"101 states in the last condition", lay([]byte{0}, nil, lone(1, 1), lone(101, 1))},
		{"255 states", lay([]byte{0}, nil, lone(255, 1))},
		{"a state too few", with(one, stateCount, 2)},
		{"a rule beyond the last", with(one, tokenByte, 2)},
		{"a rule beyond the last of eight", lay(make([]byte, 8), nil, [][]int{{9, n}})},
		{"a rule of nowhere", with(one, tokenByte, 255)},
		{"a state beyond the last", with(one, leadByte, 1)},
		{"a state just below nowhere", with(one, leadByte, 254)},
		{"a state beyond the last of 100", lay([]byte{0}, nil, append(lone(99, 1), []int{0, 100}))},
		{"a state of the other condition", lay([]byte{0}, nil, lone(2, 1), [][]int{{0, 1}})},
		{"a state of the condition ahead", lay([]byte{0}, nil, [][]int{{0, 1}}, lone(2, 1))},
	} {
		if isImage(c.image) {
			t.Errorf("%s: the tests themselves take it for an image", c.name)
		}
		mustCheck(t, c.name, c.image, api.ErrImage)
	}
}

func TestLongImages(t *testing.T) {
	for _, s := range []string{"x", "S", "\x00", "\x01", "\xff", "ST\x01"} {
		long := strings.Repeat(s, api.MaxImage/len(s))
		mustCheck(t, "just as long as may be", long, api.ErrImage)
		mustCheck(t, "a byte longer", long+"x", api.ErrLong)
		mustCheck(t, "much longer", strings.Repeat(long, 50), api.ErrLong)
	}
	greatest := lay(make([]byte, 8), each(), lone(100, 256), lone(100, 256), lone(100, 256), lone(100, 256))
	fill := strings.Repeat("\xff", api.MaxImage-len(greatest))
	mustCheck(t, "an image and more, just as long as may be", greatest+fill, api.ErrImage)
	mustCheck(t, "an image and more, a byte longer", greatest+fill+"\xff", api.ErrLong)
}

// Every text that differs from an image in one byte, and every one that is
// shorter.
func TestNearImages(t *testing.T) {
	for _, image := range []string{
		lay([]byte{0}, nil, lone(1, 1)),
		lay([]byte{0, 3}, []string{"b"}, [][]int{{2, 1, n}, {0, 0, 1}}, [][]int{{1, 0, 0}}),
		lay([]byte{5, 1, 2}, []string{"a", "bc"}, [][]int{{0, 1, n, 2}, {3, 1, 1, 0}, {2, n, n, 0}}, lone(1, 3), [][]int{{0, 1, 1, 1}, {1, 0, n, 1}}, lone(1, 3)),
	} {
		good := 0
		for i := range len(image) {
			mustCheck(t, "cut short", image[:i], api.ErrImage)
			for b := range 256 {
				near := with(image, i, byte(b))
				want := api.ErrImage
				if isImage(near) {
					want = api.OK
					good++
				}
				mustCheck(t, fmt.Sprint(b, " at ", i), near, want)
			}
		}
		if good <= len(image) {
			t.Errorf("only %d texts near to %q are images", good, image)
		}
	}
}

// Whatever Compile answers is an image.
func TestCompiledImages(t *testing.T) {
	m := maker{picker(11)}
	for round := range 500 {
		rules := m.file(1 + round%10)
		image, e := stencil.Compile(rules)
		if e == api.OK {
			mustCheck(t, rules, image, api.OK)
			mustCheck(t, rules, image[:m.pick(len(image))], api.ErrImage)
		}
	}
}

// Texts that begin as images do, and go on at random.
func TestRandomImages(t *testing.T) {
	pick := picker(12)
	good := 0
	for range 30000 {
		classes := 1 + pick(2)
		text := []byte{'S', 'T', 1, 1, byte(pick(4)), byte(pick(3)), byte(classes - 1)}
		for range 256 {
			text = append(text, byte(pick(classes)))
		}
		text = append(text, byte(pick(3)))
		for range pick(8) {
			text = append(text, []byte{0, 1, 2, 255}[pick(4)])
		}
		want := api.ErrImage
		if isImage(string(text)) {
			want = api.OK
			good++
		}
		mustCheck(t, "at random", string(text), want)
	}
	if good < 100 {
		t.Errorf("only %d images", good)
	}
}
