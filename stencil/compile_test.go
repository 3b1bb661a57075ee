package stencil_test

import (
	"strings"
	"testing"

	"stencil/api"
	"stencil/stencil"
)

const n = -1

// once is the table of one byte, the only one of class 1, that is a token of
// rule 0; bare is that of a condition without rules.
var (
	once = [][]int{{0, n, 1}, {1, n, n}}
	bare = [][]int{{0, n, n}}
)

func mustBe(t *testing.T, rules, want string) {
	t.Helper()
	image, e := stencil.Compile(rules)
	if image != want || e != api.OK {
		t.Errorf("Compile(%q) = %q, %d, want %q", rules, image, e, want)
	}
}

func TestDocumentImages(t *testing.T) {
	want := "ST\x01" + "\x01\x00" + "\x01" + "\x01" + strings.Repeat("\x00", 97) + "\x01" + strings.Repeat("\x00", 158) +
		"\x02" + "\x00\xff\x01" + "\x01\xff\xff"
	if len(want) != 270 {
		t.Fatalf("%d bytes written by hand", len(want))
	}
	for _, rules := range []string{"A a .", "A a|a .", "A (a) .", "A [a] ."} {
		mustBe(t, rules, want)
	}
	mustBe(t, "A (a) .\nA a -", "ST\x01"+"\x02\x00\x01"+want[5:])
}

func TestImages(t *testing.T) {
	for _, c := range []struct {
		name, rules, want string
	}{
		{"behind: nothing told", "A a -", lay([]byte{1}, []string{"a"}, once)},
		{"behind: the own condition", "A a A", lay([]byte{2}, []string{"a"}, once)},
		{"behind: the highest letter", "A a D", lay([]byte{5}, []string{"a"}, once, bare, bare, bare)},
		{"the letter behind is below", "C a B", lay([]byte{3}, []string{"a"}, bare, bare, once)},
		{"every condition", "ABCD a .", lay([]byte{0}, []string{"a"}, once, once, once, once)},
		{"a gap", "AC a .", lay([]byte{0}, []string{"a"}, once, bare, once)},
		{"rules keep their numbers in a condition", "B a .\nA a -", lay([]byte{0, 1}, []string{"a"},
			[][]int{{0, n, 1}, {2, n, n}}, once)},
		{"the first rule has it", "A a -\nA [ab] .", lay([]byte{1, 0}, []string{"a", "b"},
			[][]int{{0, n, 1, 2}, {1, n, n, n}, {2, n, n, n}})},
		{"the first rule of the condition has it", "B a .\nAB [ab] .", lay([]byte{0, 0}, []string{"a", "b"},
			[][]int{{0, n, 1, 1}, {2, n, n, n}}, [][]int{{0, n, 1, 2}, {1, n, n, n}, {2, n, n, n}})},
		{"rules of one kind are two rules", "A a .\nA b .", lay([]byte{0, 0}, []string{"a", "b"},
			[][]int{{0, n, 1, 2}, {1, n, n, n}, {2, n, n, n}})},
		{"the empty text is no token", "A a* .", lay([]byte{0}, []string{"a"}, [][]int{{0, n, 1}, {1, n, 1}})},
		{"the empty text has company", "A (ab)*c .", lay([]byte{0}, []string{"a", "b", "c"},
			[][]int{{0, n, 1, n, 2}, {0, n, n, 0, n}, {1, n, n, n, n}})},
		{"a token is not like the empty text", "A (ab)* .", lay([]byte{0}, []string{"a", "b"},
			[][]int{{0, n, 1, n}, {0, n, n, 2}, {1, n, 1, n}})},
		{"one class", "A .+ .", lay([]byte{0}, nil, [][]int{{0, 1}, {1, 1}})},
		{"the lowest byte is in class 0", "A [^a] .", lay([]byte{0}, []string{"a"}, [][]int{{0, 1, n}, {1, n, n}})},
		{"classes by their lowest bytes", "A [bz][ay] .", lay([]byte{0}, []string{"ay", "bz"},
			[][]int{{0, n, n, 1}, {0, n, 2, n}, {1, n, n, n}})},
		{"a class is parted by another condition", "A [ab] .\nB b .", lay([]byte{0, 0}, []string{"a", "b"},
			[][]int{{0, n, 1, 1}, {1, n, n, n}}, [][]int{{0, n, n, 1}, {2, n, n, n}})},
		{"a class is parted behind the beginning", "A [ab]a .", lay([]byte{0}, []string{"a", "b"},
			[][]int{{0, n, 1, 1}, {0, n, 2, n}, {1, n, n, n}})},
		{"states: the shorter text first", "A ab|c .\nA c -", lay([]byte{0, 1}, []string{"a", "b", "c"},
			[][]int{{0, n, 1, n, 2}, {0, n, n, 2, n}, {1, n, n, n, n}})},
		{"states: width before depth", "A abc|dd .", lay([]byte{0}, []string{"a", "b", "c", "d"},
			[][]int{{0, n, 1, n, n, 2}, {0, n, n, 3, n, n}, {0, n, n, n, n, 4}, {0, n, n, n, 4, n}, {1, n, n, n, n, n}})},
		{"states: the lower byte first, not the earlier rule", "A b .\nA a .", lay([]byte{0, 0}, []string{"a", "b"},
			[][]int{{0, n, 1, 2}, {2, n, n, n}, {1, n, n, n}})},
		{"states: the lower byte, not the lower number", "A b[xy] .\nA a[yz] .", lay([]byte{0, 0}, []string{"a", "b", "x", "y", "z"},
			[][]int{{0, n, 1, 2, n, n, n}, {0, n, n, n, n, 3, 3}, {0, n, n, n, 4, 4, n}, {2, n, n, n, n, n, n}, {1, n, n, n, n, n, n}})},
		{"the document's steps", "A a|a*b .", lay([]byte{0}, []string{"a", "b"},
			[][]int{{0, n, 1, 2}, {1, n, 3, 2}, {1, n, n, n}, {0, n, 3, 2}})},
		{"the document's conditions", "A a .\nA \" B\nB [^\"]+ .\nB \" A", lay([]byte{0, 3, 0, 2}, []string{"\"", "a"},
			[][]int{{0, n, 1, 2}, {2, n, n, n}, {1, n, n, n}}, [][]int{{0, 1, 2, 1}, {3, 1, n, 1}, {4, n, n, n}})},
	} {
		t.Run(c.name, func(t *testing.T) { mustBe(t, c.rules, c.want) })
	}
}

// Every byte, in each way in which it may be written as a place.
func TestPlaces(t *testing.T) {
	for b := range 256 {
		c := string([]byte{byte(b)})
		for _, before := range []string{"", "\\", "[", "[\\", "[^", "[^\\", "[!-", "[!-\\", "[\\n-", "[\\n-\\"} {
			close := ""
			if strings.HasPrefix(before, "[") {
				close = "]"
			}
			examine(t, "A "+before+c+close+" .", picker(1))
		}
	}
	all := func(low, high int) string {
		bytes := []byte{}
		for b := low; b <= high; b++ {
			bytes = append(bytes, byte(b))
		}
		return string(bytes)
	}
	for _, c := range []struct{ expression, bytes string }{
		{`\n`, "\n"}, {`\s`, " "}, {`\\`, `\`}, {`\.`, "."}, {`^`, "^"}, {`-`, "-"}, {`!`, "!"}, {`~`, "~"}, {`{`, "{"}, {`0`, "0"}, {`Z`, "Z"},
		{`[\n]`, "\n"}, {`[\]]`, "]"}, {`[\^]`, "^"}, {`[\-]`, "-"}, {`[[]`, "["}, {`[.]`, "."}, {`[|*+?()]`, "|*+?()"}, {`[n\n]`, "n\n"},
		{`[a-a]`, "a"}, {`[a-c]`, "abc"}, {`[a-cb-d]`, "abcd"}, {`[\n-\s]`, all(10, 32)}, {`[\s-~]`, all(32, 126)}, {`[+-\-]`, "+,-"}, {`[\--/]`, "-./"},
		{`[a-cx]`, "abcx"}, {`[xa-c]`, "abcx"}, {`[!-~]`, all(33, 126)},
	} {
		mustBe(t, "A "+c.expression+" .", lay([]byte{0}, []string{c.bytes}, once))
	}
	mustBe(t, "A [^\\n-~] .", lay([]byte{0}, []string{all(10, 126)}, [][]int{{0, 1, n}, {1, n, n}}))
	mustBe(t, "A [^ab-d!] .", lay([]byte{0}, []string{"!abcd"}, [][]int{{0, 1, n}, {1, n, n}}))
}

// Rule files that say the same have one image.
func TestAlikeFiles(t *testing.T) {
	for _, files := range [][]string{
		{"A a .", "A a? .", "A (a?)? .", "A ((a)|a) .", "A [aaa] .", "A a|[a-a] ."},
		{"A a+ .", "A a* .", "A aa* .", "A a*a .", "A a*a* .", "A (a*)* .", "A (a+)+ .", "A (a?)+ .", "A (a|aa)* .", "A (aa?)* .", "A a|aa|aaa+ ."},
		{"A [ab]* .", "A (a|b)* .", "A (a*b*)* .", "A (a*b)*a* .", "A (a?b?)+ .", "A [ab]*a[ab][ab][ab][ab][ab][ab]|[ab]* ."},
		{"A . .", "A [^a]|a .", "A .|a .", "A [^ab]|a|b .", "A [^a]|[^b] ."},
		{"A ab|ac .", "A a(b|c) .", "A a[bc] .", "A a[b-c] .", "A (ab)|(ac) .", "A ac|ab|ac ."},
		{"A abc|bbc .", "A (a|b)bc .", "A [ab]bc .", "A (ab|bb)c ."},
		{"A a .\nA b .", "A a .\nA [ab] .", "A a .\nA a|b ."},
		{"A a .\nB b .", "A a .\nB b|b .", "A (a) .\nB [b] ."},
	} {
		image, e := stencil.Compile(files[0])
		if e != api.OK {
			t.Errorf("Compile(%q): %d", files[0], e)
		}
		for _, rules := range files {
			mustBe(t, rules, image)
			examine(t, rules, picker(2))
		}
	}
}

// The answers hang on the argument alone, whatever was asked in between.
func TestSameAnswers(t *testing.T) {
	files := []string{"A a .", "B a .\nA [ab]+ -", "", "A abcdefghijk .", "A [ab]*a[ab][ab][ab][ab][ab] .", "A [ab]*a[ab][ab][ab][ab][ab][ab] .", "ABCD . D", "A a"}
	images := []string{}
	errors := []api.Errno{}
	for _, rules := range files {
		image, e := stencil.Compile(rules)
		images = append(images, image)
		errors = append(errors, e)
	}
	for i := range files {
		for j := range files {
			stencil.Compile(files[i])
			image, e := stencil.Compile(files[j])
			if image != images[j] || e != errors[j] {
				t.Errorf("Compile(%q) answers otherwise behind Compile(%q)", files[j], files[i])
			}
		}
	}
}
