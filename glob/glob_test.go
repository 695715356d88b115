package glob_test

import (
	"fmt"
	"math"
	"math/rand"
	"regexp"
	"slices"
	"strings"
	"sync"
	"testing"
	"unsafe"

	"arbour/api"
	"arbour/glob"
)

func with(text string) api.Rule { return api.Rule{Kind: 1, Text: text} }

func without(text string) api.Rule { return api.Rule{Kind: 2, Text: text} }

func typed(text string) api.Rule { return api.Rule{Kind: 3, Text: text} }

// plainName is a name, but for the two that are dots alone.
var plainName = regexp.MustCompile(`\A[!-.0-~]([ -.0-~]{0,22}[!-.0-~])?\z`)

// plainType is what may stand behind `x.` at the end of a name, without a further dot.
var plainType = regexp.MustCompile(`\A[ -\-0-~]{0,6}[!-\-0-~]\z`)

// plainPath, plainValid, plainParse, plainPrint, plainWithin and plainMatch are the chapter's sentences, by other ways than the package's.
func plainPath(s string) bool {
	parts := strings.SplitAfter(s, "/")
	if len(parts) > 16 {
		return false
	}
	for i, part := range parts {
		if i < len(parts)-1 {
			part = part[:len(part)-1]
		}
		if !plainName.MatchString(part) || part == "." || part == ".." {
			return false
		}
	}
	return true
}

func plainValid(r api.Rule) bool {
	if r.Kind == 3 {
		return plainType.MatchString(r.Text)
	}
	return (r.Kind == 1 || r.Kind == 2) && (r.Text == "." || plainPath(r.Text))
}

func plainParse(text string) ([]api.Rule, api.Errno) {
	if text == "" {
		return nil, api.OK
	}
	parts := strings.Split(text, "\n")
	if parts[len(parts)-1] != "" {
		return nil, api.ErrRule
	}
	parts = parts[:len(parts)-1]
	if len(parts) > 16 {
		return nil, api.ErrBig
	}
	var rules []api.Rule
	for _, line := range parts {
		r := api.Rule{}
		for i, start := range []string{"with ", "without ", "type "} {
			if strings.HasPrefix(line, start) {
				r = api.Rule{Kind: i + 1, Text: line[len(start):]}
			}
		}
		if !plainValid(r) {
			return nil, api.ErrRule
		}
		rules = append(rules, r)
	}
	return rules, api.OK
}

func plainPrint(rules []api.Rule) (string, api.Errno) {
	if len(rules) > 16 {
		return "", api.ErrBig
	}
	text := ""
	for _, r := range rules {
		if !plainValid(r) {
			return "", api.ErrRule
		}
		text += fmt.Sprintf("%s %s\n", []string{"with", "without", "type"}[r.Kind-1], r.Text)
	}
	return text, api.OK
}

func plainWithin(path, of string) bool {
	if of == "." || of == path {
		return true
	}
	for i := 0; i < len(path)-1; i++ {
		if path[i] == '/' && path[:i] == of {
			return true
		}
	}
	return false
}

func plainMatch(rules []api.Rule, path string, dir bool) bool {
	ofPath := func(kind int, text string) bool {
		return slices.Contains(rules, api.Rule{Kind: kind, Text: text}) && plainWithin(path, text)
	}
	// All Texts that a rule of this path can have, the longest one first.
	texts := []string{path}
	for i := len(path) - 2; i >= 0; i-- {
		if path[i] == '/' {
			texts = append(texts, path[:i])
		}
	}
	texts = append(slices.DeleteFunc(texts, func(s string) bool { return s == "." }), ".")
	decided := false
	for _, text := range texts {
		if ofPath(2, text) {
			return false
		}
		if ofPath(1, text) {
			decided = true
			break
		}
	}
	if !decided || dir {
		return decided
	}
	types := map[string]bool{}
	for _, r := range rules {
		if r.Kind == 3 {
			types[r.Text] = true
		}
	}
	return len(types) == 0 || types[plainExt(path)]
}

func plainExt(path string) string {
	parts := strings.Split(path, "/")
	name := parts[len(parts)-1]
	if name == "" || !strings.Contains(name[1:], ".") {
		return ""
	}
	parts = strings.Split(name, ".")
	return parts[len(parts)-1]
}

// checkParse holds Parse against the plain one, and against P9.4.
func checkParse(t *testing.T, text string) {
	t.Helper()
	rules, err := glob.Parse(text)
	if want, wantErr := plainParse(text); !slices.Equal(rules, want) || err != wantErr {
		t.Errorf("Parse(%q) = %v, %v, want %v, %v", text, rules, err, want, wantErr)
	}
	if err != api.OK {
		return
	}
	if again, err := glob.Print(rules...); again != text || err != api.OK {
		t.Errorf("Print of Parse(%q) = %q, %v", text, again, err)
	}
}

// checkPrint holds Print against the plain one, and against P9.4.
func checkPrint(t *testing.T, rules ...api.Rule) {
	t.Helper()
	kept := slices.Clone(rules)
	text, err := glob.Print(rules...)
	if want, wantErr := plainPrint(rules); text != want || err != wantErr {
		t.Errorf("Print(%v) = %q, %v, want %q, %v", rules, text, err, want, wantErr)
	}
	if !slices.Equal(rules, kept) {
		t.Errorf("%v became %v", kept, rules)
	}
	if err != api.OK {
		return
	}
	if again, err := glob.Parse(text); !slices.Equal(again, rules) || err != api.OK {
		t.Errorf("Parse of Print(%v) = %v, %v", rules, again, err)
	}
}

// checkRule holds a rule and its line against the plain ones, alone and beside others.
func checkRule(t *testing.T, r api.Rule) {
	t.Helper()
	checkPrint(t, r)
	checkPrint(t, with("a"), r)
	checkPrint(t, r, typed("go"))
	if r.Kind < 1 || r.Kind > 3 {
		return
	}
	line := []string{"with ", "without ", "type "}[r.Kind-1] + r.Text
	checkParse(t, line)
	checkParse(t, line+"\n")
	checkParse(t, "with a\n"+line+"\n")
	checkParse(t, line+"\ntype go\n")
}

func checkPath(t *testing.T, s string) {
	t.Helper()
	if got, want := glob.Path(s), plainPath(s); got != want {
		t.Errorf("Path(%q) = %v, want %v", s, got, want)
	}
}

func checkWithin(t *testing.T, path, of string) {
	t.Helper()
	if got, want := glob.Within(path, of), plainWithin(path, of); got != want {
		t.Errorf("Within(%q, %q) = %v, want %v", path, of, got, want)
	}
}

// checkMatch holds Match against the plain one, for a directory and for a file, and with the rules turned round.
func checkMatch(t *testing.T, rules []api.Rule, path string) {
	t.Helper()
	kept := slices.Clone(rules)
	turned := slices.Clone(rules)
	slices.Reverse(turned)
	for _, dir := range []bool{false, true} {
		want := plainMatch(rules, path, dir)
		if got := glob.Match(rules, path, dir); got != want {
			t.Errorf("Match(%v, %q, %v) = %v, want %v", rules, path, dir, got, want)
		}
		if got := glob.Match(turned, path, dir); got != want {
			t.Errorf("Match(%v, %q, %v) = %v, want %v", turned, path, dir, got, want)
		}
	}
	if !slices.Equal(rules, kept) {
		t.Errorf("%v became %v", kept, rules)
	}
}

// shortTexts is all texts of up to so many of the bytes.
func shortTexts(size int, alphabet string) []string {
	texts := []string{""}
	shorter := texts
	for range size {
		var longer []string
		for _, s := range shorter {
			for i := range len(alphabet) {
				longer = append(longer, s+alphabet[i:i+1])
			}
		}
		texts = append(texts, longer...)
		shorter = longer
	}
	return texts
}

// shortLists is all lists of up to so many of the rules.
func shortLists(size int, from ...api.Rule) [][]api.Rule {
	lists := [][]api.Rule{{}}
	shorter := lists
	for range size {
		var longer [][]api.Rule
		for _, list := range shorter {
			for _, r := range from {
				longer = append(longer, append(slices.Clone(list), r))
			}
		}
		lists = append(lists, longer...)
		shorter = longer
	}
	return lists
}

// each goes through all orders of a list.
func each(list []api.Rule, do func([]api.Rule)) {
	var put func(head, rest []api.Rule)
	put = func(head, rest []api.Rule) {
		if len(rest) == 0 {
			do(head)
		}
		for i, r := range rest {
			put(append(slices.Clone(head), r), slices.Delete(slices.Clone(rest), i, i+1))
		}
	}
	put(nil, list)
}

// pathOf is a path of so many names.
func pathOf(size int) string {
	return strings.TrimSuffix(strings.Repeat("n/", size), "/")
}

// edgeBytes is each byte at which a text becomes a path, an extension or a line, or none, and one that is no character.
const edgeBytes = "\n\x1f !-./0a~\x7f\xff"

// edgeTexts is Texts at the edges that the chapter names.
func edgeTexts() []string {
	name := strings.Repeat("x", 24)
	return []string{
		"", ".", "..", "...", "....", "a", "ab", "a.b", ".a", "a.", "..a", "A", "~", "go", "txt",
		"/", "//", "/a", "a/", "/a/", "a//b", "a/b", "a/b/", "/a/b", "a/b//c", "a///b", "a//", "//a",
		"./a", "a/.", "a/./b", "../a", "a/..", "a/../b", "/.", "./", "./.", "a/...", ".a/.b", "a/b.c", "a./b.",
		" ", " a", "a ", "a b", "a  b", " a b", "a b ", "a /b", "a/ b", "a b/c d", "a/b c", "with a", "a with b", "/ ", " /",
		name, name + "x", name + "/" + name, name + "/" + name + "x", name + "x/a", "a/" + name + "x", name[:23] + " ", name[:23] + ".",
		strings.TrimSuffix(strings.Repeat(name+"/", 16), "/"), strings.TrimSuffix(strings.Repeat(name+"/", 17), "/"),
		pathOf(1), pathOf(2), pathOf(15), pathOf(16), pathOf(17), pathOf(18), pathOf(100), pathOf(16) + "/", "/" + pathOf(16), pathOf(15) + "/", "/" + pathOf(15),
		"a", "abcdef", "abcdefg", "abcdefgh", "abcdefghi", "abc def", "abcdef ", " abcdef", "      g", "abc.efg", ".bcdefg", "abcdef.", "abc/efg", "/bcdefg", "abcdef/",
		"\x00", "a\x00", "a\t", "a\r", "\x1f", "a\x1fb", "\x7f", "a\x7fb", "ü", "a/ü", "\x80", "\xff", "a\xffb", "\\", "*", "a\\b", "a*", "?", "[a]", "\"'",
		"a\n", "\na", "a\nb", "\n", "a\nwith b",
	}
}

// P9.1

func TestParseExamples(t *testing.T) {
	for text, want := range map[string][]api.Rule{
		"":                                  nil,
		"with a\n":                          {with("a")},
		"without a\n":                       {without("a")},
		"type a\n":                          {typed("a")},
		"with .\n":                          {with(".")},
		"without .\n":                       {without(".")},
		"with a/b\n":                        {with("a/b")},
		"without a/b.c/d\n":                 {without("a/b.c/d")},
		"with a b\n":                        {with("a b")},
		"with a  b/c d\n":                   {with("a  b/c d")},
		"with with\n":                       {with("with")},
		"with with a\n":                     {with("with a")},
		"without with a\n":                  {without("with a")},
		"with ...\n":                        {with("...")},
		"with .a\n":                         {with(".a")},
		"with a.\n":                         {with("a.")},
		"type go\n":                         {typed("go")},
		"type a b\n":                        {typed("a b")},
		"type  a\n":                         {typed(" a")},
		"type 1234567\n":                    {typed("1234567")},
		"type ~\n":                          {typed("~")},
		"type with a\n":                     {typed("with a")},
		"with b\nwith a\n":                  {with("b"), with("a")},
		"with a\nwith a\n":                  {with("a"), with("a")},
		"with a\nwithout a\n":               {with("a"), without("a")},
		"without a\nwith a\n":               {without("a"), with("a")},
		"with a\nwithout a/b\ntype go\n":    {with("a"), without("a/b"), typed("go")},
		"type go\nwithout .\nwith a\n":      {typed("go"), without("."), with("a")},
		"with abcdefghijklmnopqrstuvwx\n":   {with("abcdefghijklmnopqrstuvwx")},
		"with " + pathOf(16) + "\n":         {with(pathOf(16))},
		"without " + pathOf(16) + "\n":      {without(pathOf(16))},
		strings.Repeat("with .\n", 16):      slices.Repeat([]api.Rule{with(".")}, 16),
		strings.Repeat("type g\n", 15):      slices.Repeat([]api.Rule{typed("g")}, 15),
		strings.Repeat("without a/b\n", 16): slices.Repeat([]api.Rule{without("a/b")}, 16),
	} {
		if got, err := glob.Parse(text); !slices.Equal(got, want) || err != api.OK {
			t.Errorf("Parse(%q) = %v, %v, want %v", text, got, err, want)
		}
		checkParse(t, text)
		checkPrint(t, want...)
	}
}

func TestParseOfWrongLines(t *testing.T) {
	for _, line := range []string{
		"", " ", "  ", "a", ".", "with", "without", "type", "with ", "without ", "type ", "with  ", "without  ", "type  ",
		"foo a", "With a", "WITH a", "Without a", "Type a", "wit a", "witha", "withouta", "typea", "withs a", "withou a", "withoutt a", "types a", "typ a",
		" with a", "with  a", "with a ", "with\ta", "with\x00a", "a with", "\twith a", "with a\r", "with a\t", "\xef\xbb\xbfwith a", "1 a", "with:a", "with/a", "-with a", "# a", "0 a", "3 go",
		" without a", "without  a", "without a ", "without\ta", " type a", "type a ", "type\ta",
		"with ..", "with /", "with /a", "with a/", "with a//b", "with ./a", "with a/.", "with ../a", "with a/..", "with a/../b", "with a /b", "with a/ b",
		"without ..", "without /", "without /a", "without a/", "without a//b", "without ./a", "without a/.", "without ../a", "without a/..",
		"with abcdefghijklmnopqrstuvwxy", "with a/abcdefghijklmnopqrstuvwxy", "with abcdefghijklmnopqrstuvwxy/a", "with " + pathOf(17), "without " + pathOf(17), "without abcdefghijklmnopqrstuvwxy",
		"with a\x1f", "with a\x7f", "with ü", "with \xff", "without a\x00b", "type \x1f", "type \x7f", "type ü", "type \xff",
		"type .", "type ..", "type .a", "type a.", "type a.b", "type .go", "type /", "type /a", "type a/", "type a/b", "type abcdefgh", "type abcdef ", "type a\x1fb",
	} {
		for _, text := range []string{line + "\n", "with a\n" + line + "\n", line + "\nwith a\n", "with a\n" + line + "\nwith a\n", strings.Repeat("with a\n", 15) + line + "\n"} {
			if got, err := glob.Parse(text); len(got) != 0 || err != api.ErrRule {
				t.Errorf("Parse(%q) = %v, %v", text, got, err)
			}
			checkParse(t, text)
		}
	}
}

func TestParseOfTextsThatEndNoLine(t *testing.T) {
	for _, text := range []string{"with a", "with .", "type go", "a", " ", "\r", "\x00", "with a\nwith b", "with a\n ", "\nwith a", "with a\r", "with a\n\x00", "\n\n.", "with a\v", "with a\u0085"} {
		if got, err := glob.Parse(text); len(got) != 0 || err != api.ErrRule {
			t.Errorf("Parse(%q) = %v, %v", text, got, err)
		}
	}
}

func TestParseOfEmptyLines(t *testing.T) {
	for _, text := range []string{"\n", "\n\n", "\nwith a\n", "with a\n\n", "with a\n\nwith b\n", "\n\n\n"} {
		if got, err := glob.Parse(text); len(got) != 0 || err != api.ErrRule {
			t.Errorf("Parse(%q) = %v, %v", text, got, err)
		}
	}
}

func TestParseOfEachNumberOfLines(t *testing.T) {
	for size := range 300 {
		for _, line := range []string{"with a\n", "without .\n", "type go\n", "\n", "with\n"} {
			want := api.OK
			if size > 16 {
				want = api.ErrBig
			} else if size > 0 && line != "with a\n" && line != "without .\n" && line != "type go\n" {
				want = api.ErrRule
			}
			got, err := glob.Parse(strings.Repeat(line, size))
			if err != want || err == api.OK && len(got) != size || err != api.OK && len(got) != 0 {
				t.Errorf("Parse of %d times %q = %v, %v, want %v", size, line, got, err, want)
			}
			checkParse(t, strings.Repeat(line, size)+"with a\n")
			checkParse(t, "with a\n"+strings.Repeat(line, size))
		}
	}
}

// Of two errors that apply at once the one that the chapter says first is told.
func TestParseOfTwoErrorsAtOnce(t *testing.T) {
	sixteen := strings.Repeat("with a\n", 16)
	for _, c := range []struct {
		text string
		err  api.Errno
	}{
		{sixteen + "with a", api.ErrRule},
		{sixteen + "with a\nwith a", api.ErrRule},
		{sixteen + "with a\nx\ny", api.ErrRule},
		{sixteen + "x", api.ErrRule},
		{strings.Repeat("\n", 16) + "x", api.ErrRule},
		{strings.Repeat("\n", 17) + "x", api.ErrRule},
		{sixteen + "with a\n", api.ErrBig},
		{sixteen + "\n", api.ErrBig},
		{sixteen + "x\n", api.ErrBig},
		{"x\n" + sixteen, api.ErrBig},
		{"\n" + sixteen, api.ErrBig},
		{"type a.b\n" + sixteen, api.ErrBig},
		{strings.Repeat("x\n", 17), api.ErrBig},
		{strings.Repeat("\n", 17), api.ErrBig},
		{strings.Repeat("\n", 16), api.ErrRule},
		{strings.Repeat("x\n", 16), api.ErrRule},
		{strings.Repeat("\n", 1<<20), api.ErrBig},
		{strings.Repeat("x", 1<<20), api.ErrRule},
		{strings.Repeat("x", 1<<20) + "\n", api.ErrRule},
		{"with " + strings.Repeat("a/", 1<<20) + "a\n", api.ErrRule},
		{"type " + strings.Repeat(".", 1<<20) + "a\n", api.ErrRule},
	} {
		if got, err := glob.Parse(c.text); len(got) != 0 || err != c.err {
			t.Errorf("Parse of %d bytes, %.60q = %v, %v, want %v", len(c.text), c.text, got, err, c.err)
		}
	}
}

func TestLinesOfAllShortTexts(t *testing.T) {
	for _, s := range shortTexts(3, edgeBytes) {
		for kind := range 5 {
			checkRule(t, api.Rule{Kind: kind, Text: s})
			checkRule(t, api.Rule{Kind: kind, Text: "x/" + s})
			checkRule(t, api.Rule{Kind: kind, Text: s + "abcde"})
		}
		checkParse(t, s)
		checkParse(t, s+"\n")
		checkParse(t, s+"with a\n")
		checkParse(t, "with"+s+"\n")
		checkParse(t, "without"+s+"\n")
		checkParse(t, "type"+s+"\n")
	}
}

func TestLinesOfEdgeTexts(t *testing.T) {
	for _, s := range edgeTexts() {
		for kind := -1; kind < 6; kind++ {
			checkRule(t, api.Rule{Kind: kind, Text: s})
		}
	}
}

func TestRulesOfEachByte(t *testing.T) {
	for b := range 256 {
		s := string([]byte{byte(b)})
		for _, text := range []string{s, s + "b", "a" + s, "a" + s + "b", "a/" + s, s + "/a", "abcdef" + s, s + "abcdef", "abcdefg" + s} {
			for kind := range 5 {
				checkRule(t, api.Rule{Kind: kind, Text: text})
			}
		}
		checkParse(t, s+"\n")
		checkParse(t, "with"+s+"a\n")
		checkParse(t, "type"+s+"a\n")
		checkParse(t, s+"with a\n")
		checkParse(t, "with a"+s+"without b\n")
		checkParse(t, "with a\n"+s)
	}
}

func TestTypesOfEachSize(t *testing.T) {
	for size := range 300 {
		text := strings.Repeat("t", size)
		want := api.ErrRule
		if size >= 1 && size <= 7 {
			want = api.OK
		}
		if _, err := glob.Parse("type " + text + "\n"); err != want {
			t.Errorf("Parse of a type of %d bytes = %v, want %v", size, err, want)
		}
		if _, err := glob.Print(typed(text)); err != want {
			t.Errorf("Print of a type of %d bytes = %v, want %v", size, err, want)
		}
		for at := range min(size, 10) {
			for _, s := range []string{".", "/", " ", "\n", "\x7f"} {
				checkRule(t, typed(text[:at]+s+text[at+1:]))
			}
		}
	}
}

func TestPrintExamples(t *testing.T) {
	for _, c := range []struct {
		rules []api.Rule
		want  string
	}{
		{nil, ""},
		{[]api.Rule{}, ""},
		{[]api.Rule{with("a")}, "with a\n"},
		{[]api.Rule{without("a")}, "without a\n"},
		{[]api.Rule{typed("a")}, "type a\n"},
		{[]api.Rule{with(".")}, "with .\n"},
		{[]api.Rule{without(".")}, "without .\n"},
		{[]api.Rule{typed(" a")}, "type  a\n"},
		{[]api.Rule{with("b"), with("a"), with("b")}, "with b\nwith a\nwith b\n"},
		{[]api.Rule{with("a"), without("a/b"), typed("go")}, "with a\nwithout a/b\ntype go\n"},
		{[]api.Rule{typed("go"), without("a b/c"), with(".")}, "type go\nwithout a b/c\nwith .\n"},
		{slices.Repeat([]api.Rule{without("a")}, 16), strings.Repeat("without a\n", 16)},
	} {
		if got, err := glob.Print(c.rules...); got != c.want || err != api.OK {
			t.Errorf("Print(%v) = %q, %v, want %q", c.rules, got, err, c.want)
		}
		checkPrint(t, c.rules...)
	}
	if got, err := glob.Print(); got != "" || err != api.OK {
		t.Errorf("Print() = %q, %v", got, err)
	}
}

func TestPrintOfWrongRules(t *testing.T) {
	wrong := []api.Rule{{}, {Kind: 0, Text: "a"}, {Kind: 4, Text: "a"}, {Kind: -1, Text: "a"}, {Kind: math.MinInt, Text: "."}, {Kind: math.MaxInt, Text: "a"}, {Kind: 1<<32 + 1, Text: "a"}, {Kind: 257, Text: "a"}, {Kind: 4, Text: "."}, {Kind: 0, Text: "."}}
	for _, text := range []string{"", "..", "/", "/a", "a/", "a//b", "./a", "a/.", " ", " a ", "a ", "a\n", "a\nwith b", "ü", "a\x1f", "a\x7f", "a/../b"} {
		wrong = append(wrong, with(text), without(text), typed(text))
	}
	for _, text := range []string{pathOf(17), " a", "abcdefghijklmnopqrstuvwxy"} {
		wrong = append(wrong, with(text), without(text))
	}
	for _, text := range []string{".", "a.b", ".a", "a.", "a/b", "abcdefgh"} {
		wrong = append(wrong, typed(text))
	}
	for _, r := range wrong {
		for _, rules := range [][]api.Rule{{r}, {with("a"), r}, {r, with("a")}, {with("a"), r, with("a")}, append(slices.Repeat([]api.Rule{with("a")}, 15), r)} {
			if got, err := glob.Print(rules...); got != "" || err != api.ErrRule {
				t.Errorf("Print(%v) = %q, %v", rules, got, err)
			}
		}
		checkRule(t, r)
	}
}

func TestPrintOfEachNumberOfRules(t *testing.T) {
	for size := range 300 {
		for _, r := range []api.Rule{with("a"), without("."), typed("go"), {}, with("a/"), typed("a.b")} {
			rules := slices.Repeat([]api.Rule{r}, size)
			checkPrint(t, rules...)
			got, err := glob.Print(rules...)
			if size > 16 && (got != "" || err != api.ErrBig) {
				t.Errorf("Print of %d times %v = %q, %v", size, r, got, err)
			}
			checkPrint(t, append(rules, with("a"))...)
			checkPrint(t, append(rules, api.Rule{})...)
		}
	}
}

// P9.2

func TestPathExamples(t *testing.T) {
	for s, want := range map[string]bool{
		"":                                    false,
		".":                                   false,
		"..":                                  false,
		"...":                                 true,
		"a":                                   true,
		"a/b":                                 true,
		"a/b/c.txt":                           true,
		"a b/c d":                             true,
		".a/.b":                               true,
		"a./b.":                               true,
		"a/...":                               true,
		"a/a":                                 true,
		"with a":                              true,
		"/":                                   false,
		"//":                                  false,
		"/a":                                  false,
		"a/":                                  false,
		"a//b":                                false,
		"a/b/":                                false,
		"/a/b":                                false,
		"./a":                                 false,
		"a/.":                                 false,
		"a/./b":                               false,
		"../a":                                false,
		"a/..":                                false,
		"a/../b":                              false,
		" a":                                  false,
		"a ":                                  false,
		"a /b":                                false,
		"a/ b":                                false,
		" ":                                   false,
		"a/ /b":                               false,
		"a\n":                                 false,
		"a\x1f/b":                             false,
		"a/b\x7f":                             false,
		"ü":                                   false,
		"a/\xff":                              false,
		"abcdefghijklmnopqrstuvwx":            true,
		"abcdefghijklmnopqrstuvwxy":           false,
		"a/abcdefghijklmnopqrstuvwx/a":        true,
		"a/abcdefghijklmnopqrstuvwxy/a":       false,
		"n/n/n/n/n/n/n/n/n/n/n/n/n/n/n/n":     true,
		"n/n/n/n/n/n/n/n/n/n/n/n/n/n/n/n/n":   false,
		"n/n/n/n/n/n/n/n/n/n/n/n/n/n/n/n/":    false,
		"/n/n/n/n/n/n/n/n/n/n/n/n/n/n/n/n":    false,
		"n/n/n/n/n/n/n/n/n/n/n/n/n/n/n/":      false,
		"n/n/n/n/n/n/n/n/n/n/n/n/n/n/n/.":     false,
		"n/n/n/n/n/n/n/n/n/n/n/n/n/n/n/a b.c": true,
	} {
		if got := glob.Path(s); got != want {
			t.Errorf("Path(%q) = %v, want %v", s, got, want)
		}
		checkPath(t, s)
	}
}

func TestPathOfEachDepth(t *testing.T) {
	for size := 1; size < 300; size++ {
		for _, name := range []string{"n", "a.txt", "abcdefghijklmnopqrstuvwx", "a b"} {
			s := strings.TrimSuffix(strings.Repeat(name+"/", size), "/")
			if got := glob.Path(s); got != (size <= 16) {
				t.Errorf("Path of %d names = %v", size, got)
			}
		}
		checkPath(t, strings.Repeat("/", size))
	}
}

// A name that is none makes a path none wherever it stands.
func TestPathOfEachPlace(t *testing.T) {
	for size := 1; size <= 18; size++ {
		for at := range size {
			for _, wrong := range []string{"", ".", "..", " a", "a ", "\x1f", "a\x7f", "ü", "a\nb", "abcdefghijklmnopqrstuvwxy"} {
				parts := strings.Split(pathOf(size), "/")
				parts[at] = wrong
				if s := strings.Join(parts, "/"); glob.Path(s) {
					t.Errorf("Path(%q) = true", s)
				}
			}
		}
	}
}

func TestPathOfAllShortTexts(t *testing.T) {
	for _, s := range shortTexts(4, edgeBytes) {
		checkPath(t, s)
		checkPath(t, s+strings.Repeat("x", 21)+s)
	}
	for _, s := range shortTexts(9, "a./") {
		checkPath(t, s)
	}
	for _, s := range edgeTexts() {
		checkPath(t, s)
	}
}

func TestPathOfEachByte(t *testing.T) {
	for b := range 256 {
		s := string([]byte{byte(b)})
		for _, path := range []string{s, "a" + s, s + "a", "a" + s + "b", "a/" + s, s + "/a", "a/b" + s + "c/d"} {
			checkPath(t, path)
		}
	}
}

func TestGreatTexts(t *testing.T) {
	great := strings.Repeat("a", 1<<20)
	slashes := strings.Repeat("/", 1<<20)
	deep := strings.Repeat("a/", 1<<20) + "a"
	for _, s := range []string{great, slashes, deep, great + "/" + great} {
		if glob.Path(s) {
			t.Errorf("Path of %d bytes = true", len(s))
		}
		if !glob.Within(s, s) || !glob.Within(s+"/x", s) || glob.Within(s+"/", s) || glob.Within(s, s+"/x") || glob.Within(s+"x", s) {
			t.Errorf("Within of %d bytes is another one", len(s))
		}
		if !glob.Match([]api.Rule{with(s)}, s, true) || !glob.Match([]api.Rule{without("a"), with(s)}, s+"/x", false) {
			t.Errorf("Match of %d bytes = false", len(s))
		}
	}
}

func TestWithinExamples(t *testing.T) {
	for _, c := range []struct {
		path, of string
		want     bool
	}{
		{"a", "a", true},
		{"a/b", "a", true},
		{"a/b/c", "a", true},
		{"a/b/c", "a/b", true},
		{"a/b", "a/b", true},
		{"a", "a/b", false},
		{"a/", "a", false},
		{"a//", "a", true},
		{"a//b", "a", true},
		{"a/", "a/", true},
		{"a//", "a/", false},
		{"a//b", "a/", true},
		{"a/b", "a/", false},
		{"ab", "a", false},
		{"abc", "a", false},
		{"ab/c", "a", false},
		{"a b", "a", false},
		{"a.b", "a", false},
		{"a\x00b", "a", false},
		{"a", "ab", false},
		{"b/a", "a", false},
		{"b", "a", false},
		{"A/b", "a", false},
		{"", "", true},
		{"a", "", false},
		{"/", "", false},
		{"/a", "", true},
		{"//", "", true},
		{"", "a", false},
		{"", "/", false},
		{"/", "/", true},
		{"//", "/", false},
		{"//a", "/", true},
		{"/a", "/", false},
		{".", ".", true},
		{"", ".", true},
		{"a", ".", true},
		{"a/b", ".", true},
		{"/", ".", true},
		{"..", ".", true},
		{"./", ".", true},
		{"./a", ".", true},
		{"\xff", ".", true},
		{".", "", false},
		{".", "..", false},
		{".", "a", false},
		{"..", "..", true},
		{"../a", "..", true},
		{"../", "..", false},
		{"...", "..", false},
		{"a", "..", false},
		{"./a", "./a", true},
		{"./a/b", "./a", true},
		{"a", "./a", false},
		{"./a", "a", false},
		{"\xff/\xfe", "\xff", true},
		{"a\n/b", "a\n", true},
	} {
		if got := glob.Within(c.path, c.of); got != c.want {
			t.Errorf("Within(%q, %q) = %v, want %v", c.path, c.of, got, c.want)
		}
		checkWithin(t, c.path, c.of)
	}
}

func TestWithinOfEdgeTexts(t *testing.T) {
	texts := edgeTexts()
	for _, s := range texts {
		for _, other := range texts {
			checkWithin(t, s, other)
			checkWithin(t, s+"/"+other, s)
		}
		if !glob.Within(s, s) || !glob.Within(s, ".") || !glob.Within(s+"/x", s) {
			t.Errorf("%q is not within itself, or what is below it is not", s)
		}
		if s != "." && (glob.Within(s+"/", s) || glob.Within(s+"x", s) || glob.Within(s+".", s) || glob.Within(s+"0", s) || glob.Within("x"+s, s) || glob.Within(s, s+"/") || glob.Within(s, s+"/x")) {
			t.Errorf("what is not below %q is within it, or it is within what is below it", s)
		}
	}
}

func TestWithinOfAllShortTexts(t *testing.T) {
	texts := append(shortTexts(5, "a/."), shortTexts(2, edgeBytes)...)
	for _, s := range texts {
		for _, other := range texts {
			checkWithin(t, s, other)
		}
	}
}

// P9.3

func TestChapterExample(t *testing.T) {
	rules, err := glob.Parse("with a\nwithout a/b\ntype go\n")
	if want := []api.Rule{{Kind: api.With, Text: "a"}, {Kind: api.Without, Text: "a/b"}, {Kind: api.Type, Text: "go"}}; !slices.Equal(rules, want) || err != api.OK {
		t.Fatalf("Parse = %v, %v", rules, err)
	}
	if !glob.Match(rules, "a/x.go", false) || !glob.Match(rules, "a", true) {
		t.Error("Match is false for a/x.go or for a")
	}
	for _, path := range []string{"a/b/x.go", "a/x.txt", "c/x.go"} {
		if glob.Match(rules, path, false) {
			t.Errorf("Match(%q) = true", path)
		}
	}
}

func TestMatchExamples(t *testing.T) {
	for _, c := range []struct {
		rules     []api.Rule
		path      string
		dir, file bool
	}{
		{nil, "a", false, false},
		{nil, "", false, false},
		{nil, ".", false, false},
		{[]api.Rule{typed("go")}, "a.go", false, false},
		{[]api.Rule{typed("")}, "a", false, false},
		{[]api.Rule{without("a")}, "b", false, false},
		{[]api.Rule{without("a")}, "a", false, false},
		{[]api.Rule{without(".")}, "a", false, false},
		{[]api.Rule{with("a")}, "a", true, true},
		{[]api.Rule{with("a")}, "a/b", true, true},
		{[]api.Rule{with("a")}, "a/b/c.d", true, true},
		{[]api.Rule{with("a")}, "b", false, false},
		{[]api.Rule{with("a")}, "ab", false, false},
		{[]api.Rule{with("a")}, "b/a", false, false},
		{[]api.Rule{with("a/b")}, "a", false, false},
		{[]api.Rule{with("a/b")}, "a/b", true, true},
		{[]api.Rule{with("a/b")}, "a/c", false, false},
		{[]api.Rule{with(".")}, "a", true, true},
		{[]api.Rule{with(".")}, "a/b", true, true},
		{[]api.Rule{with(".")}, "", true, true},
		{[]api.Rule{with(".")}, "/", true, true},
		{[]api.Rule{with("b"), with("a")}, "a/x", true, true},
		{[]api.Rule{without("b"), with("a")}, "a/x", true, true},
		{[]api.Rule{with("a"), without("a/b")}, "a", true, true},
		{[]api.Rule{with("a"), without("a/b")}, "a/b", false, false},
		{[]api.Rule{with("a"), without("a/b")}, "a/bc", true, true},
		{[]api.Rule{with("a"), without("a/b")}, "a/b/c", false, false},
		{[]api.Rule{without("a"), with("a/b")}, "a", false, false},
		{[]api.Rule{without("a"), with("a/b")}, "a/b", true, true},
		{[]api.Rule{without("a"), with("a/b")}, "a/b/c", true, true},
		{[]api.Rule{without("a"), with("a/b")}, "a/c", false, false},
		{[]api.Rule{with("a"), without("a/b"), with("a/b/c")}, "a/b/c/d", true, true},
		{[]api.Rule{with("a"), without("a/b"), with("a/b/c")}, "a/b/d", false, false},
		{[]api.Rule{with("a"), without("a/b"), with("a/b/c"), without("a/b/c/d")}, "a/b/c/d", false, false},
		{[]api.Rule{with("a"), without("a")}, "a", false, false},
		{[]api.Rule{without("a"), with("a")}, "a/b", false, false},
		{[]api.Rule{with("a"), without("a"), with("a")}, "a", false, false},
		{[]api.Rule{without("a"), with("a"), with("a/b")}, "a/b", true, true},
		{[]api.Rule{with("a"), with("a")}, "a", true, true},
		{[]api.Rule{with("."), without(".")}, "a", false, false},
		{[]api.Rule{without("."), with(".")}, "a", false, false},
		{[]api.Rule{with("."), without("a")}, "a", false, false},
		{[]api.Rule{with("."), without("a")}, "b", true, true},
		{[]api.Rule{without("."), with("a")}, "a", true, true},
		{[]api.Rule{without("."), with("a")}, "b", false, false},
		{[]api.Rule{with("a"), without(".")}, "a", true, true},
		{[]api.Rule{without("a"), with(".")}, "a", false, false},
		{[]api.Rule{without("."), with("a/b")}, "a", false, false},
		{[]api.Rule{without("."), with("a/b")}, "a/b/c", true, true},
		{[]api.Rule{with("."), typed("go")}, "a", true, false},
		{[]api.Rule{with("."), typed("go")}, "a.go", true, true},
		{[]api.Rule{with("."), typed("go")}, "a.txt", true, false},
		{[]api.Rule{with("."), typed("go")}, "a.Go", true, false},
		{[]api.Rule{with("."), typed("go")}, "a.go.txt", true, false},
		{[]api.Rule{with("."), typed("go")}, "a.txt.go", true, true},
		{[]api.Rule{with("."), typed("go")}, ".go", true, false},
		{[]api.Rule{with("."), typed("go")}, "a/.go", true, false},
		{[]api.Rule{with("."), typed("go")}, "a/..go", true, true},
		{[]api.Rule{with("."), typed("go")}, "go", true, false},
		{[]api.Rule{with("."), typed("go")}, "a.go.", true, false},
		{[]api.Rule{with("."), typed("go")}, "a.go/b", true, false},
		{[]api.Rule{with("."), typed("go")}, "a.txt/b.go", true, true},
		{[]api.Rule{with("."), typed("go")}, "a.b/go", true, false},
		{[]api.Rule{with("."), typed("go")}, "a.go/", true, false},
		{[]api.Rule{with("."), typed("go")}, "a.xgo", true, false},
		{[]api.Rule{with("."), typed("go")}, "a.gox", true, false},
		{[]api.Rule{with("."), typed("go"), typed("txt")}, "a.go", true, true},
		{[]api.Rule{with("."), typed("go"), typed("txt")}, "a.txt", true, true},
		{[]api.Rule{with("."), typed("go"), typed("txt")}, "a.c", true, false},
		{[]api.Rule{with("."), typed("go"), typed("go")}, "a.go", true, true},
		{[]api.Rule{typed("go"), with("a"), without("a/b")}, "a/b/x.go", false, false},
		{[]api.Rule{typed("go"), with("a"), without("a/b")}, "a/x.go", true, true},
		{[]api.Rule{typed("go"), with("a.go")}, "a.go", true, true},
		{[]api.Rule{typed("go"), with("a.txt")}, "a.txt", true, false},
		{[]api.Rule{typed("go"), without("a.go")}, "a.go", false, false},
		{[]api.Rule{typed("a"), with("a")}, "a", true, false},
		{[]api.Rule{typed("a"), with("a")}, "a/a.a", true, true},
	} {
		if got := glob.Match(c.rules, c.path, true); got != c.dir {
			t.Errorf("Match(%v, %q, true) = %v, want %v", c.rules, c.path, got, c.dir)
		}
		if got := glob.Match(c.rules, c.path, false); got != c.file {
			t.Errorf("Match(%v, %q, false) = %v, want %v", c.rules, c.path, got, c.file)
		}
		checkMatch(t, c.rules, c.path)
	}
}

// Rules and paths that are not valid are taken by the same words.
func TestMatchOfWrongRulesAndPaths(t *testing.T) {
	for _, c := range []struct {
		rules     []api.Rule
		path      string
		dir, file bool
	}{
		{[]api.Rule{with("")}, "", true, true},
		{[]api.Rule{with("")}, "/a", true, true},
		{[]api.Rule{with("")}, "/", false, false},
		{[]api.Rule{with("")}, "a", false, false},
		{[]api.Rule{with(""), without(".")}, "", true, true},
		{[]api.Rule{without("."), with("")}, "/a", true, true},
		{[]api.Rule{without(""), with(".")}, "/a", false, false},
		{[]api.Rule{with("."), without("")}, "", false, false},
		{[]api.Rule{with("."), without("")}, "a", true, true},
		{[]api.Rule{with("a/")}, "a/", true, true},
		{[]api.Rule{with("a/")}, "a/b", false, false},
		{[]api.Rule{with("a/")}, "a//b", true, true},
		{[]api.Rule{with("a"), without("a/")}, "a//b", false, false},
		{[]api.Rule{with("a"), without("a/")}, "a/b", true, true},
		{[]api.Rule{with("a")}, "a/", false, false},
		{[]api.Rule{with("..")}, "..", true, true},
		{[]api.Rule{with(".."), without(".")}, "../a", true, true},
		{[]api.Rule{with("./a"), without(".")}, "./a", true, true},
		{[]api.Rule{without("./a"), with(".")}, "./a/b", false, false},
		{[]api.Rule{with("/"), without("")}, "//a", true, true},
		{[]api.Rule{with("\xff")}, "\xff/\xfe", true, true},
		{[]api.Rule{with("a\n")}, "a\n/b", true, true},
		{[]api.Rule{with("."), without(".")}, ".", false, false},
		{[]api.Rule{{Kind: 0, Text: "."}}, "a", false, false},
		{[]api.Rule{{Kind: 4, Text: "."}}, "a", false, false},
		{[]api.Rule{{Kind: -1, Text: "a"}}, "a", false, false},
		{[]api.Rule{{Kind: 1<<32 + 1, Text: "a"}}, "a", false, false},
		{[]api.Rule{with("."), {Kind: 0, Text: "a"}}, "a", true, true},
		{[]api.Rule{with("."), {Kind: 4, Text: "a"}}, "a", true, true},
		{[]api.Rule{without("."), {Kind: 5, Text: "a"}}, "a", false, false},
		{[]api.Rule{with("."), {Kind: 4, Text: "go"}}, "a.txt", true, true},
		{[]api.Rule{with("."), {Kind: 0, Text: "go"}, typed("txt")}, "a.go", true, false},
		{[]api.Rule{with("."), typed("")}, "a", true, true},
		{[]api.Rule{with("."), typed("")}, "a.", true, true},
		{[]api.Rule{with("."), typed("")}, ".a", true, true},
		{[]api.Rule{with("."), typed("")}, "", true, true},
		{[]api.Rule{with("."), typed("")}, "a.go/", true, true},
		{[]api.Rule{with("."), typed("")}, "a.go", true, false},
		{[]api.Rule{with("."), typed("a.b")}, "x.a.b", true, false},
		{[]api.Rule{with("."), typed(".")}, "x..", true, false},
		{[]api.Rule{with("."), typed("/")}, "x./", true, false},
		{[]api.Rule{with("."), typed("a/b")}, "x.a/b", true, false},
		{[]api.Rule{with("."), typed("longextension")}, "x.longextension", true, true},
		{[]api.Rule{with("."), typed("a ")}, "x.a ", true, true},
		{[]api.Rule{with("."), typed("\xff")}, "\x00.\xff", true, true},
		{[]api.Rule{with("."), typed("..")}, "a", true, false},
		{slices.Repeat([]api.Rule{with("a")}, 17), "a", true, true},
		{append(slices.Repeat([]api.Rule{with("a")}, 100), without("a")), "a", false, false},
		{append(slices.Repeat([]api.Rule{typed("c")}, 100), with("a"), typed("go")), "a/b.go", true, true},
		{[]api.Rule{with(pathOf(20))}, pathOf(30), true, true},
		{[]api.Rule{with(pathOf(20)), without(pathOf(21))}, pathOf(30), false, false},
	} {
		if got := glob.Match(c.rules, c.path, true); got != c.dir {
			t.Errorf("Match(%v, %q, true) = %v, want %v", c.rules, c.path, got, c.dir)
		}
		if got := glob.Match(c.rules, c.path, false); got != c.file {
			t.Errorf("Match(%v, %q, false) = %v, want %v", c.rules, c.path, got, c.file)
		}
		checkMatch(t, c.rules, c.path)
	}
}

func TestMatchOfAllShortLists(t *testing.T) {
	from := []api.Rule{with("."), without("."), with("a"), without("a"), with("a/b"), without("a/b"), typed("b"), typed("")}
	paths := []string{"", ".", "a", "b", "a.b", "a/", "a/b", "a/c.b", "a/b/c", "a/b/c.b", "a/b.c", "a/.b", "ab", "b/a.b"}
	for _, rules := range shortLists(4, from...) {
		for _, path := range paths {
			checkMatch(t, rules, path)
		}
	}
}

func TestMatchOfWrongShortLists(t *testing.T) {
	from := []api.Rule{with("."), without("."), with(""), without(""), with("/"), without("./a"), {Kind: 0, Text: "."}, {Kind: 4, Text: "a"}, typed(""), typed("/")}
	for _, rules := range shortLists(3, from...) {
		for _, path := range shortTexts(4, "a/.") {
			checkMatch(t, rules, path)
		}
	}
}

// One rule of each length of a deep path decides as far down as the next one.
func TestMatchOfDeepPaths(t *testing.T) {
	for depth := 1; depth <= 16; depth++ {
		rules := []api.Rule{without(".")}
		for size := 1; size <= depth; size++ {
			rules = append(rules, api.Rule{Kind: 2 - size%2, Text: pathOf(size)})
		}
		for size := 1; size <= 18; size++ {
			if got, want := glob.Match(rules, pathOf(size), true), min(size, depth)%2 == 1; got != want {
				t.Errorf("Match of %d names with rules of %d = %v", size, depth, got)
			}
			checkMatch(t, rules, pathOf(size))
			checkMatch(t, rules, pathOf(size)+"/other")
		}
	}
}

func TestMatchOfRandomRules(t *testing.T) {
	random := rand.New(rand.NewSource(9))
	parts := []string{"a", "b", "/", "/", "/", ".", ".go", "ab", "x.c"}
	text := func() string {
		s := ""
		for range random.Intn(7) {
			s += parts[random.Intn(len(parts))]
		}
		return s
	}
	for range 30000 {
		var rules []api.Rule
		for range random.Intn(10) {
			r := api.Rule{Kind: 1 + random.Intn(3), Text: text()}
			if random.Intn(6) == 0 {
				r.Text = "."
			}
			if r.Kind == 3 && random.Intn(2) == 0 {
				r.Text = "go"
			}
			rules = append(rules, r)
		}
		path := text()
		if len(rules) > 0 && random.Intn(2) == 0 {
			path = rules[random.Intn(len(rules))].Text + "/" + path
		}
		checkMatch(t, rules, path)
		random.Shuffle(len(rules), func(i, j int) { rules[i], rules[j] = rules[j], rules[i] })
		checkMatch(t, rules, path)
	}
}

// P9.4: checkParse and checkPrint hold the first of it at every text and list above, checkMatch the last.

func TestParseAndPrintOfRandomRules(t *testing.T) {
	random := rand.New(rand.NewSource(4))
	texts := []string{".", "a", "a/b", "a b", "go", ".a", "...", pathOf(16), "abcdefg", "with a", "abcdefghijklmnopqrstuvwx", "a/b c/d.e"}
	for range 3000 {
		var rules []api.Rule
		for range random.Intn(18) {
			r := api.Rule{Kind: 1 + random.Intn(3), Text: texts[random.Intn(len(texts))]}
			if plainValid(r) || random.Intn(30) == 0 {
				rules = append(rules, r)
			}
		}
		checkPrint(t, rules...)
		text := ""
		for _, r := range rules {
			text += []string{"with ", "without ", "type "}[r.Kind-1] + r.Text + "\n"
		}
		checkParse(t, text)
		checkParse(t, text[:random.Intn(len(text)+1)])
	}
}

func TestWithinIsTransitive(t *testing.T) {
	texts := append(shortTexts(4, "a/."), "a/b", "b", "a/b/c", "../a", "a/b/", "a//b", "\xff", "\xff/a")
	for _, high := range texts {
		var below []string
		for _, s := range texts {
			if glob.Within(s, high) {
				below = append(below, s)
			}
		}
		for _, middle := range below {
			for _, low := range texts {
				if glob.Within(low, middle) && !glob.Within(low, high) {
					t.Errorf("%q is within %q and that is within %q, but it is not", low, middle, high)
				}
			}
		}
	}
}

func TestMatchInAllOrders(t *testing.T) {
	paths := []string{"a", "a.go", "a/b", "a/b.go", "a/b/c", "a/b/c.go", "b", "b.go", "b/c.txt", ".", ""}
	for _, rules := range [][]api.Rule{
		{with("."), without("a"), with("a/b"), typed("go"), typed("txt")},
		{with("a"), without("a"), with("a/b"), without("a/b/c"), with("b")},
		{with("."), without("."), with("a"), typed("go"), without("b")},
		{with("a"), with("a"), without("a"), typed(""), with("")},
		{with("a/b"), {Kind: 0, Text: "a"}, without("a"), with("."), {Kind: 4, Text: "go"}},
	} {
		each(rules, func(order []api.Rule) {
			for _, path := range paths {
				checkMatch(t, order, path)
				for _, dir := range []bool{false, true} {
					if got, want := glob.Match(order, path, dir), glob.Match(rules, path, dir); got != want {
						t.Errorf("Match(%v, %q, %v) = %v, and %v in the order %v", order, path, dir, got, want, rules)
					}
				}
			}
		})
	}
}

// R1 to R3

func TestArgumentsStayAsTheyAre(t *testing.T) {
	kept := []api.Rule{typed("go"), with("a"), without("a/b"), with("."), without("z"), with("z")}
	whole := slices.Clone(kept)
	if got, err := glob.Print(whole[:4]...); got != "type go\nwith a\nwithout a/b\nwith .\n" || err != api.OK {
		t.Errorf("Print = %q, %v", got, err)
	}
	if !glob.Match(whole[:4], "z/x.go", false) || glob.Match(whole[:4], "a/b/x.go", false) {
		t.Error("Match is another one")
	}
	if !slices.Equal(whole, kept) {
		t.Errorf("%v became %v", kept, whole)
	}
}

func TestAnswersAreNewMemory(t *testing.T) {
	const text = "with a\nwithout a/b\ntype go\n"
	want := []api.Rule{with("a"), without("a/b"), typed("go")}
	first, _ := glob.Parse(text)
	again, _ := glob.Parse(text)
	printed, _ := glob.Print(first...)
	matched := glob.Match(first, "a/x.go", false)
	for i := range first {
		first[i] = api.Rule{Kind: 2, Text: "spoilt"}
	}
	_ = append(first[:1], api.Rule{Kind: 9, Text: "spoilt"})
	if !slices.Equal(again, want) {
		t.Errorf("an answer became %v with another one", again)
	}
	if later, err := glob.Parse(text); !slices.Equal(later, want) || err != api.OK {
		t.Errorf("Parse behind a spoilt answer = %v, %v", later, err)
	}
	if later, err := glob.Print(again...); printed != text || later != text || err != api.OK {
		t.Errorf("Print behind a spoilt answer = %q, %v", later, err)
	}
	if !matched || !glob.Match(again, "a/x.go", false) {
		t.Error("Match behind a spoilt answer is another one")
	}
}

func TestTextsAreNewMemory(t *testing.T) {
	text := strings.Clone("with abc\nwithout abc/d\ntype def\n")
	from := uintptr(unsafe.Pointer(unsafe.StringData(text)))
	rules, err := glob.Parse(text)
	if len(rules) != 3 || err != api.OK {
		t.Fatalf("Parse(%q) = %v, %v", text, rules, err)
	}
	for _, r := range rules {
		at := uintptr(unsafe.Pointer(unsafe.StringData(r.Text)))
		if at >= from && at < from+uintptr(len(text)) {
			t.Errorf("%v shares memory with the argument of Parse", r)
		}
	}
}

func TestAnswersHangOnTheArgumentsAlone(t *testing.T) {
	lists := shortLists(3, with("."), without("a"), with("a/b"), typed("go"), without(""))
	var wait sync.WaitGroup
	for range 8 {
		wait.Go(func() {
			for _, rules := range lists {
				checkPrint(t, rules...)
				checkMatch(t, rules, "a/b/x.go")
				text, _ := plainPrint(rules)
				checkParse(t, text)
			}
		})
	}
	wait.Wait()
}

// Ways

func TestRulesAreVariadic(t *testing.T) {
	var _ func(...api.Rule) (string, api.Errno) = glob.Print
	if got, err := glob.Print(with("a"), without("b"), typed("c")); got != "with a\nwithout b\ntype c\n" || err != api.OK {
		t.Errorf("Print of three rules = %q, %v", got, err)
	}
}

func FuzzParse(f *testing.F) {
	f.Add("with a\nwithout a/b\ntype go\n")
	f.Add("with .\n\n")
	f.Add("type a.b")
	f.Add(strings.Repeat("without .\n", 17))
	f.Fuzz(func(t *testing.T, text string) {
		checkParse(t, text)
		checkParse(t, text+"\n")
		checkParse(t, "with "+text+"\n")
		checkParse(t, "type "+text+"\n")
	})
}

func FuzzMatch(f *testing.F) {
	f.Add("with a\nwithout a/b\ntype go", "a/x.go")
	f.Add("without .\nwith a/\nwith ", "/a//b")
	f.Add("type \ntype /", "a.")
	f.Fuzz(func(t *testing.T, text, path string) {
		var rules []api.Rule
		for _, line := range strings.Split(text, "\n") {
			kind, rest, _ := strings.Cut(line, " ")
			rules = append(rules, api.Rule{Kind: slices.Index([]string{"with", "without", "type"}, kind) + 1, Text: rest})
		}
		checkMatch(t, rules, path)
		checkPrint(t, rules...)
		for _, r := range rules {
			checkRule(t, r)
			checkPath(t, r.Text)
			checkWithin(t, path, r.Text)
			checkWithin(t, r.Text+"/"+path, r.Text)
		}
	})
}
