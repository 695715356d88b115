package norm_test

import (
	"fmt"
	"go/ast"
	"go/parser"
	"go/token"
	"math"
	"math/rand"
	"slices"
	"sort"
	"strings"
	"sync"
	"testing"
	"unsafe"

	"arbour/api"
	"arbour/glob"
	"arbour/norm"
)

func with(text string) api.Rule { return api.Rule{Kind: 1, Text: text} }

func without(text string) api.Rule { return api.Rule{Kind: 2, Text: text} }

func typed(text string) api.Rule { return api.Rule{Kind: 3, Text: text} }

func list(rules ...api.Rule) []api.Rule { return rules }

// plainNorm and what it calls are the chapter's sentences, by other ways than the package's.
func plainNorm(rules []api.Rule) []api.Rule {
	var normal []api.Rule
	for _, place := range plainPlaces(rules) {
		above := 2
		if nearest, there := plainNearest(rules, place); there {
			above = plainKind(rules, nearest)
		}
		if kind := plainKind(rules, place); kind != above {
			normal = append(normal, api.Rule{Kind: kind, Text: place})
		}
	}
	for _, text := range plainTexts(rules, 3) {
		normal = append(normal, typed(text))
	}
	return normal
}

// plainTexts is the Texts of the rules of some kinds, each once, sorted, `.` first.
func plainTexts(rules []api.Rule, kinds ...int) []string {
	var first, others []string
	for _, r := range rules {
		switch {
		case !slices.Contains(kinds, r.Kind) || slices.Contains(first, r.Text) || slices.Contains(others, r.Text):
		case r.Text == ".":
			first = append(first, r.Text)
		default:
			others = append(others, r.Text)
		}
	}
	sort.Strings(others)
	return append(first, others...)
}

func plainPlaces(rules []api.Rule) []string { return plainTexts(rules, 1, 2) }

func plainKind(rules []api.Rule, place string) int {
	if slices.Contains(rules, without(place)) {
		return 2
	}
	return 1
}

func plainAbove(above, place string) bool {
	if above == "." {
		return place != "."
	}
	return len(place) > len(above)+1 && place[:len(above)+1] == above+"/"
}

// plainNearest is the last one, but for `.`, of the places above another one, as all of them begin alike and are sorted.
func plainNearest(rules []api.Rule, place string) (string, bool) {
	nearest, there := "", false
	for _, above := range plainPlaces(rules) {
		if plainAbove(above, place) {
			nearest, there = above, true
		}
	}
	return nearest, there
}

// plainSame holds the printed normal forms against each other.
func plainSame(a, b []api.Rule) bool {
	return fmt.Sprintf("%#v", plainNorm(a)) == fmt.Sprintf("%#v", plainNorm(b))
}

// valid tells whether each rule has a line.
func valid(rules []api.Rule) bool {
	return !slices.ContainsFunc(rules, func(r api.Rule) bool {
		_, err := glob.Print(r)
		return err != api.OK
	})
}

// nested tells whether of two places above a third one the longer one is always below the shorter one. Only a place that is another one with '/' behind it is not; no valid one is.
func nested(rules []api.Rule) bool {
	places := plainPlaces(rules)
	return !slices.ContainsFunc(places, func(place string) bool {
		return place != "." && slices.Contains(places, place+"/")
	})
}

// checkNorm holds Norm against the plain one, in three orders and with duplicates, and against P10.3.
func checkNorm(t *testing.T, rules ...api.Rule) {
	t.Helper()
	kept := slices.Clone(rules)
	got, want := norm.Norm(rules...), plainNorm(rules)
	if !slices.Equal(got, want) {
		t.Errorf("Norm(%v) = %v, want %v", rules, got, want)
	}
	checkLaws(t, rules, got)
	turned := slices.Clone(rules)
	slices.Reverse(turned)
	behind := append(slices.Clone(rules[len(rules)/2:]), rules[:len(rules)/2]...)
	for _, other := range [][]api.Rule{turned, behind, append(turned, rules...), append(slices.Clone(rules), rules...)} {
		if again := norm.Norm(other...); !slices.Equal(again, got) {
			t.Errorf("Norm(%v) = %v, and %v in the order %v", other, again, got, rules)
		}
		if !norm.Same(rules, other) || !norm.Same(other, rules) {
			t.Errorf("%v and %v are not the same", rules, other)
		}
	}
	if !slices.Equal(rules, kept) {
		t.Errorf("%v became %v", kept, rules)
	}
}

// checkLaws holds a normal form against its rules: that it has only rules of theirs, is its own normal form, and matches the same paths.
func checkLaws(t *testing.T, rules, normal []api.Rule) {
	t.Helper()
	for _, r := range normal {
		if !slices.Contains(rules, r) {
			t.Errorf("Norm(%v) has %v", rules, r)
		}
	}
	if !norm.Same(rules, rules) {
		t.Errorf("%v is not the same as itself", rules)
	}
	if !nested(rules) {
		if valid(rules) {
			t.Errorf("%v is valid, but not nested", rules)
		}
		return
	}
	if again := norm.Norm(normal...); !slices.Equal(again, normal) {
		t.Errorf("Norm of Norm(%v) = %v, want %v", rules, again, normal)
	}
	if !norm.Same(rules, normal) || !norm.Same(normal, rules) {
		t.Errorf("%v and its normal form are not the same", rules)
	}
	for _, path := range around(rules) {
		checkMatch(t, rules, normal, path)
	}
}

func checkMatch(t *testing.T, rules, normal []api.Rule, path string) {
	t.Helper()
	for _, dir := range []bool{false, true} {
		if got, want := glob.Match(normal, path, dir), glob.Match(rules, path, dir); got != want {
			t.Errorf("Norm(%v) = %v, with which Match of %q, %v is %v", rules, normal, path, dir, got)
		}
	}
}

// around is paths at, below, beside and above the places of rules, with the endings of their Type rules and others.
func around(rules []api.Rule) []string {
	paths := []string{"", ".", "x", "x.go", "x.y/z", "-", "!", "/"}
	for _, r := range rules {
		if r.Kind == 3 {
			paths = append(paths, "x."+r.Text, "y/x."+r.Text)
			continue
		}
		paths = append(paths, r.Text, r.Text+"/x", r.Text+"/x.go", r.Text+"/x/y.txt", r.Text+"x", r.Text+"/")
		for i := range len(r.Text) {
			if r.Text[i] == '/' {
				paths = append(paths, r.Text[:i], r.Text[:i]+"/x.go")
			}
		}
	}
	return paths
}

// checkSame holds Same against the plain one, both ways round, and against Norm.
func checkSame(t *testing.T, a, b []api.Rule) {
	t.Helper()
	keptA, keptB := slices.Clone(a), slices.Clone(b)
	want := plainSame(a, b)
	if norm.Same(a, b) != want || norm.Same(b, a) != want {
		t.Errorf("Same(%v, %v) = %v, %v, want %v", a, b, norm.Same(a, b), norm.Same(b, a), want)
	}
	if slices.Equal(norm.Norm(a...), norm.Norm(b...)) != want {
		t.Errorf("Same(%v, %v) is not as Norm says", a, b)
	}
	if !slices.Equal(a, keptA) || !slices.Equal(b, keptB) {
		t.Errorf("%v and %v became %v and %v", keptA, keptB, a, b)
	}
}

// shortLists is all lists of up to so many of the rules.
func shortLists(size int, from ...api.Rule) [][]api.Rule {
	lists := [][]api.Rule{{}}
	shorter := lists
	for range size {
		var longer [][]api.Rule
		for _, head := range shorter {
			for _, r := range from {
				longer = append(longer, append(slices.Clone(head), r))
			}
		}
		lists = append(lists, longer...)
		shorter = longer
	}
	return lists
}

// shortTexts is all texts of up to so many of the bytes.
func shortTexts(size int, alphabet string) []string {
	texts := []string{""}
	shorter := texts
	for range size {
		var longer []string
		for _, s := range shorter {
			for i := range len(alphabet) {
				longer = append(longer, s+alphabet[i:i+1])
			}
		}
		texts = append(texts, longer...)
		shorter = longer
	}
	return texts
}

// each goes through all orders of rules.
func each(rules []api.Rule, do func([]api.Rule)) {
	var put func(head, rest []api.Rule)
	put = func(head, rest []api.Rule) {
		if len(rest) == 0 {
			do(head)
		}
		for i, r := range rest {
			put(append(slices.Clone(head), r), slices.Delete(slices.Clone(rest), i, i+1))
		}
	}
	put(nil, rules)
}

// pathOf is a path of so many names.
func pathOf(size int) string {
	return strings.TrimSuffix(strings.Repeat("n/", size), "/")
}

// example is rules and their normal form.
type example struct{ rules, want []api.Rule }

func checkExamples(t *testing.T, examples []example) {
	t.Helper()
	for _, c := range examples {
		if got := norm.Norm(c.rules...); !slices.Equal(got, c.want) {
			t.Errorf("Norm(%v) = %v, want %v", c.rules, got, c.want)
		}
		checkNorm(t, c.rules...)
	}
}

// P10.1

func TestNormExamples(t *testing.T) {
	checkExamples(t, []example{
		{list(with("a"), with("a/b"), without("c")), list(with("a"))},
		{list(with("a"), without("a")), nil},
	})
}

func TestNormOfNoRules(t *testing.T) {
	if got := norm.Norm(); len(got) != 0 {
		t.Errorf("Norm() = %v", got)
	}
	checkExamples(t, []example{{nil, nil}, {[]api.Rule{}, nil}})
}

func TestNormOfEverything(t *testing.T) {
	checkExamples(t, []example{
		{list(with(".")), list(with("."))},
		{list(without(".")), nil},
		{list(with("."), without(".")), nil},
		{list(without("."), with(".")), nil},
		{list(with("."), with(".")), list(with("."))},
		{list(with("."), with("a")), list(with("."))},
		{list(with("a"), with(".")), list(with("."))},
		{list(with("."), without("a")), list(with("."), without("a"))},
		{list(without("a"), with(".")), list(with("."), without("a"))},
		{list(without("."), with("a")), list(with("a"))},
		{list(without("."), without("a")), nil},
		{list(with("."), with("a/b/c")), list(with("."))},
		{list(with("."), without("a/b/c")), list(with("."), without("a/b/c"))},
		{list(with("."), without("."), with("a")), list(with("a"))},
		{list(with("."), without("."), without("a")), nil},
		{list(with("."), without("a"), with("a/b"), without("b")), list(with("."), without("a"), with("a/b"), without("b"))},
		{list(with("."), without("a"), with("b")), list(with("."), without("a"))},
		{list(with("..")), list(with(".."))},
		{list(with("."), with(".."), without("...")), list(with("."), without("..."))},
		{list(with("."), with("./a"), without("./b")), list(with("."), without("./b"))},
		{list(without("."), with("./a")), list(with("./a"))},
		{list(with("."), with(".a"), without(".b")), list(with("."), without(".b"))},
		{list(without("."), with(".a"), without(".b")), list(with(".a"))},
	})
}

func TestNormOfOnePlace(t *testing.T) {
	checkExamples(t, []example{
		{list(with("a")), list(with("a"))},
		{list(without("a")), nil},
		{list(without("a"), with("a")), nil},
		{list(with("a"), without("a"), with("a")), nil},
		{list(without("a"), with("a"), without("a")), nil},
		{list(with("a"), with("a")), list(with("a"))},
		{list(without("a"), without("a"), without("a")), nil},
		{list(with("a"), with("a/b"), without("a/b")), list(with("a"), without("a/b"))},
		{list(with("a"), without("a/b"), with("a/b")), list(with("a"), without("a/b"))},
		{list(with("a"), without("a"), with("a/b")), list(with("a/b"))},
		{list(with("a/b/c"), with("a/b/c")), list(with("a/b/c"))},
		{slices.Repeat(list(with("a")), 100), list(with("a"))},
		{append(slices.Repeat(list(with("a")), 100), without("a")), nil},
		{append(slices.Repeat(list(without("b"), with("a")), 100), without("a/b")), list(with("a"), without("a/b"))},
		{list(with(pathOf(16))), list(with(pathOf(16)))},
		{list(with("abcdefghijklmnopqrstuvwx")), list(with("abcdefghijklmnopqrstuvwx"))},
		{list(with("a b"), with("with a")), list(with("a b"), with("with a"))},
	})
}

func TestNormOfPlacesBelow(t *testing.T) {
	checkExamples(t, []example{
		{list(with("a"), with("a/b")), list(with("a"))},
		{list(with("a/b"), with("a")), list(with("a"))},
		{list(with("a"), without("a/b")), list(with("a"), without("a/b"))},
		{list(without("a/b"), with("a")), list(with("a"), without("a/b"))},
		{list(without("a"), with("a/b")), list(with("a/b"))},
		{list(without("a"), without("a/b")), nil},
		{list(with("a"), with("a/b"), with("a/b/c")), list(with("a"))},
		{list(with("a"), with("a/b/c")), list(with("a"))},
		{list(with("a"), without("a/b"), with("a/b/c")), list(with("a"), without("a/b"), with("a/b/c"))},
		{list(with("a/b/c"), without("a/b"), with("a")), list(with("a"), without("a/b"), with("a/b/c"))},
		{list(with("a"), with("a/b"), without("a/b/c")), list(with("a"), without("a/b/c"))},
		{list(with("a"), without("a/b"), without("a/b/c")), list(with("a"), without("a/b"))},
		{list(without("a"), with("a/b"), without("a/b/c")), list(with("a/b"), without("a/b/c"))},
		{list(without("a"), without("a/b"), with("a/b/c")), list(with("a/b/c"))},
		{list(without("a"), without("a/b"), without("a/b/c")), nil},
		{list(with("a"), without("a/b"), without("a/b/c"), with("a/b/c/d")), list(with("a"), without("a/b"), with("a/b/c/d"))},
		{list(with("a"), with("a/b"), without("a/b/c"), without("a/b/c/d"), with("a/b/c/d/e")), list(with("a"), without("a/b/c"), with("a/b/c/d/e"))},
		{list(with("a"), without("a/b"), without("a/c"), with("a/b/d"), without("a/c/d")), list(with("a"), without("a/b"), with("a/b/d"), without("a/c"))},
		{list(with("a/a"), with("a"), without("a/a/a")), list(with("a"), without("a/a/a"))},
		{list(with("b/a"), without("a"), with("a/b")), list(with("a/b"), with("b/a"))},
	})
}

// No place is within one with which it only begins alike, even where the one stands between the other and what is within it.
func TestNormOfPlacesThatBeginAlike(t *testing.T) {
	checkExamples(t, []example{
		{list(with("a"), with("ab")), list(with("a"), with("ab"))},
		{list(with("ab"), with("a")), list(with("a"), with("ab"))},
		{list(with("a"), without("ab")), list(with("a"))},
		{list(without("a"), with("ab")), list(with("ab"))},
		{list(with("a"), with("a-b"), with("a/b")), list(with("a"), with("a-b"))},
		{list(with("a"), without("a-b"), with("a/b")), list(with("a"))},
		{list(with("a"), with("a-"), without("a/b"), with("a.b")), list(with("a"), with("a-"), with("a.b"), without("a/b"))},
		{list(with("a"), with("a."), with("a b"), with("a/")), list(with("a"), with("a b"), with("a."), with("a/"))},
		{list(with("a/b"), with("a/bc"), with("a/b/c")), list(with("a/b"), with("a/bc"))},
		{list(with("a/b"), without("a/bc"), without("a/b/c")), list(with("a/b"), without("a/b/c"))},
		{list(with("ab"), with("ab/c"), without("a"), without("a/c")), list(with("ab"))},
		{list(with("a"), with("b/a"), with("a/b"), with("ba")), list(with("a"), with("b/a"), with("ba"))},
		{list(with("A"), with("a")), list(with("A"), with("a"))},
		{list(with("a/B"), with("A"), without("a/b")), list(with("A"), with("a/B"))},
	})
}

func TestNormSortsByText(t *testing.T) {
	checkExamples(t, []example{
		{list(with("a"), with("b"), with("c")), list(with("a"), with("b"), with("c"))},
		{list(with("c"), with("b"), with("a")), list(with("a"), with("b"), with("c"))},
		{list(with("b"), with("c"), with("a")), list(with("a"), with("b"), with("c"))},
		{list(with("!"), with("."), without("-")), list(with("."), without("-"))},
		{list(without("-"), without("!"), with(".")), list(with("."), without("!"), without("-"))},
		{list(with("."), without("/"), without("-"), without("!"), without("0")), list(with("."), without("!"), without("-"), without("/"), without("0"))},
		{list(with("-"), with("!"), with("0")), list(with("!"), with("-"), with("0"))},
		{list(with("-"), with("!"), without(".")), list(with("!"), with("-"))},
		{list(with("."), without("-/a"), without("-a"), without("-")), list(with("."), without("-"), without("-a"))},
		{list(with("."), without(".."), without(".-"), without(".a"), without("-.")), list(with("."), without("-."), without(".-"), without(".."), without(".a"))},
		{list(with("."), without(""), without("\x00"), without("\xff"), without(" ")), list(with("."), without(""), without("\x00"), without(" "), without("\xff"))},
		{list(with("10"), with("9"), with("1")), list(with("1"), with("10"), with("9"))},
		{list(with("b"), with("B"), with("a"), with("A")), list(with("A"), with("B"), with("a"), with("b"))},
		{list(with("ü"), with("z"), with("\xff"), with("\x80")), list(with("z"), with("\x80"), with("ü"), with("\xff"))},
		{list(with("ab"), with("a"), with("aa")), list(with("a"), with("aa"), with("ab"))},
	})
}

func TestNormOfTypeRules(t *testing.T) {
	a := list(with("a"), without("a/b"))
	checkExamples(t, []example{
		{list(typed("go")), list(typed("go"))},
		{list(typed("txt"), typed("go")), list(typed("go"), typed("txt"))},
		{list(typed("go"), typed("txt"), typed("go")), list(typed("go"), typed("txt"))},
		{slices.Repeat(list(typed("go")), 50), list(typed("go"))},
		{list(typed("go"), with("a"), without("a/b")), append(slices.Clone(a), typed("go"))},
		{list(without("a/b"), typed("go"), with("a")), append(slices.Clone(a), typed("go"))},
		{list(with("a"), without("a/b"), typed("go")), append(slices.Clone(a), typed("go"))},
		{list(typed("z"), with("a"), typed("b"), without("a/b"), typed("a")), append(slices.Clone(a), typed("a"), typed("b"), typed("z"))},
		{list(typed("z"), with("a"), typed("a"), without("a/b"), typed("z")), append(slices.Clone(a), typed("a"), typed("z"))},
		{list(typed("a"), with("z")), list(with("z"), typed("a"))},
		{list(typed("a"), with("a")), list(with("a"), typed("a"))},
		{list(typed("a"), without("a")), list(typed("a"))},
		{list(typed("a"), with("a/b"), with("a/b/c")), list(with("a/b"), typed("a"))},
		{list(with("a"), typed("a/b"), without("a/b/c")), list(with("a"), without("a/b/c"), typed("a/b"))},
		{list(typed("a"), typed("a/b")), list(typed("a"), typed("a/b"))},
		{list(typed(".")), list(typed("."))},
		{list(typed("."), typed(".")), list(typed("."))},
		{list(typed("a"), typed(".")), list(typed("."), typed("a"))},
		{list(typed("!"), typed("-"), typed("."), typed("")), list(typed("."), typed(""), typed("!"), typed("-"))},
		{list(typed("/"), typed("0"), typed("."), typed("..")), list(typed("."), typed(".."), typed("/"), typed("0"))},
		{list(typed("."), with("a")), list(with("a"), typed("."))},
		{list(typed("."), without("a")), list(typed("."))},
		{list(typed("."), with(".")), list(with("."), typed("."))},
		{list(typed("."), without(".")), list(typed("."))},
		{list(with("."), typed("."), with("a")), list(with("."), typed("."))},
		{list(typed("")), list(typed(""))},
		{list(typed("B"), typed("a"), typed("A")), list(typed("A"), typed("B"), typed("a"))},
		{list(typed("longextension"), typed("a.b"), typed("a/")), list(typed("a.b"), typed("a/"), typed("longextension"))},
	})
}

func TestNormOfOtherKinds(t *testing.T) {
	for _, kind := range []int{0, 4, 5, -1, -2, -3, 255, 257, 1<<32 + 1, 1<<32 + 2, 1<<32 + 3, math.MinInt, math.MaxInt} {
		other := func(text string) api.Rule { return api.Rule{Kind: kind, Text: text} }
		checkExamples(t, []example{
			{list(other("a")), nil},
			{list(other(".")), nil},
			{list(other("")), nil},
			{list(other("."), other("a"), other("a/b")), nil},
			{list(other("."), with("a")), list(with("a"))},
			{list(with("."), other("a"), with("a/b")), list(with("."))},
			{list(with("."), other("a"), without("a/b")), list(with("."), without("a/b"))},
			{list(with("a"), other("a")), list(with("a"))},
			{list(other("a"), with("a"), with("a/b")), list(with("a"))},
			{list(without("a"), other("a"), with("a/b")), list(with("a/b"))},
			{list(typed("go"), other("go")), list(typed("go"))},
			{list(other("txt"), typed("go"), other("txt")), list(typed("go"))},
		})
	}
}

func TestNormOfRulesThatAreNotValid(t *testing.T) {
	checkExamples(t, []example{
		{list(with("")), list(with(""))},
		{list(without("")), nil},
		{list(with(""), without("")), nil},
		{list(with("."), with("")), list(with("."))},
		{list(with("."), without("")), list(with("."), without(""))},
		{list(without("."), with("")), list(with(""))},
		{list(with(""), with("a")), list(with(""), with("a"))},
		{list(with(""), without("a")), list(with(""))},
		{list(with(""), with("/a")), list(with(""))},
		{list(with(""), without("/a")), list(with(""), without("/a"))},
		{list(with(""), with("/")), list(with(""), with("/"))},
		{list(with(""), with("//")), list(with(""))},
		{list(with("."), without(""), with("/a")), list(with("."), without(""), with("/a"))},
		{list(with("."), without(""), without("/a")), list(with("."), without(""))},
		{list(without("."), with(""), without("/a/b")), list(with(""), without("/a/b"))},
		{list(with("/a"), with("a")), list(with("/a"), with("a"))},
		{list(with("/a"), with("/a/b"), without("/a/c")), list(with("/a"), without("/a/c"))},
		{list(with("/a"), with("//a")), list(with("//a"), with("/a"))},
		{list(with("/"), with("//a"), with("/a")), list(with("/"), with("/a"))},
		{list(with("/"), without("//")), list(with("/"))},
		{list(with("/"), with("///")), list(with("/"))},
		{list(with("a/"), with("a//b"), with("a/b")), list(with("a/"), with("a/b"))},
		{list(with("a/"), without("a/b"), without("a//b")), list(with("a/"), without("a//b"))},
		{list(with("a b"), with(" "), with(" /a")), list(with(" "), with("a b"))},
		{list(with("a\n"), without("a\n/b")), list(with("a\n"), without("a\n/b"))},
		{list(with("\xff"), with("\xff/\xfe"), without("\xff/\xfd")), list(with("\xff"), without("\xff/\xfd"))},
		{list(with("../a"), with(".."), without("../a/b")), list(with(".."), without("../a/b"))},
		{list(with(pathOf(17)), with(pathOf(18)), without(pathOf(40))), list(with(pathOf(17)), without(pathOf(40)))},
		{list(with("abcdefghijklmnopqrstuvwxy"), without("abcdefghijklmnopqrstuvwxy/a")), list(with("abcdefghijklmnopqrstuvwxy"), without("abcdefghijklmnopqrstuvwxy/a"))},
	})
}

// A place with '/' behind it is not within the place itself, yet both are above what stands behind a further '/': the longer one is the nearest.
func TestNormOfAPlaceWithASlashBehindIt(t *testing.T) {
	checkExamples(t, []example{
		{list(with("a"), with("a/")), list(with("a"), with("a/"))},
		{list(with("a"), without("a/")), list(with("a"))},
		{list(without("a"), with("a/")), list(with("a/"))},
		{list(with("a"), with("a//")), list(with("a"))},
		{list(with("a"), without("a//")), list(with("a"), without("a//"))},
		{list(with("a"), with("a/b")), list(with("a"))},
		{list(with("a"), without("a/b/")), list(with("a"), without("a/b/"))},
		{list(with("a"), with("a//b")), list(with("a"))},
		{list(with("a"), without("a//b")), list(with("a"), without("a//b"))},
		{list(with("a"), without("a/"), with("a//b")), list(with("a"), with("a//b"))},
		{list(with("a"), without("a/"), without("a//b")), list(with("a"))},
		{list(without("a"), with("a/"), with("a//b")), list(with("a/"))},
		{list(without("a"), with("a/"), without("a//b")), list(with("a/"), without("a//b"))},
		{list(with("."), without("a"), with("a/"), with("a//b")), list(with("."), without("a"))},
		{list(with("."), without("a"), with("a/"), without("a//b")), list(with("."), without("a"), without("a//b"))},
		{list(with("a"), with("a/"), without("a//"), without("a///"), with("a///b")), list(with("a"), with("a/"), without("a//"), without("a///"), with("a///b"))},
		{list(with("a"), without("a//"), with("a///"), with("a////b")), list(with("a"), without("a//"))},
		{list(with(""), with("/"), without("//a"), without("/a")), list(with(""), with("/"), without("//a"), without("/a"))},
		{list(with("."), without("./"), without("./a"), with(".//a")), list(with("."), without("./"), with(".//a"), without("./a"))},
	})
}

func TestNormOfAllShortLists(t *testing.T) {
	from := list(with("."), without("."), with("a"), without("a"), with("a/b"), without("a/b"), with("a/b/c"), without("a/b/c"), typed("b"), typed("."))
	for _, rules := range shortLists(4, from...) {
		checkNorm(t, rules...)
	}
}

func TestNormOfAlikeShortLists(t *testing.T) {
	from := list(with("a"), without("a"), with("a-"), without("ab"), with("a/b"), without("a/b"), with("a/b-"), with("-"), without("!"), with("."))
	for _, rules := range shortLists(4, from...) {
		checkNorm(t, rules...)
	}
}

func TestNormOfWrongShortLists(t *testing.T) {
	from := list(with("."), without(""), with(""), with("/"), without("/"), without("a"), with("a/"), without("a//b"), with("/a"), without("//a"), with("./"), without(".//a"), api.Rule{Kind: 0, Text: "a"}, api.Rule{Kind: 4, Text: "."}, typed(""), typed("/"))
	for _, rules := range shortLists(3, from...) {
		checkNorm(t, rules...)
		checkNorm(t, append(list(with(".")), rules...)...)
		checkNorm(t, append(list(without("a"), with("a//b")), rules...)...)
	}
}

func TestNormOfAllShortTexts(t *testing.T) {
	texts := shortTexts(4, "a/.-")
	for i, text := range texts {
		for _, kind := range []int{0, 1, 2, 3, 4} {
			r := api.Rule{Kind: kind, Text: text}
			checkNorm(t, r)
			checkNorm(t, with("."), r)
			checkNorm(t, without("."), r, with("a"))
			checkNorm(t, with("."), without("a"), without(""), r)
			checkNorm(t, r, with("a/"), with(text+"/a"), without(text+"/"), without(text+"//a"))
			checkNorm(t, r, with(texts[(i*7+3)%len(texts)]), without(texts[(i*31+5)%len(texts)]))
		}
	}
}

// All places of a family of texts at once, whose kinds agree and turn in any manner.
func TestNormOfFamilies(t *testing.T) {
	texts := []string{".", "", "/", "/a", "a", "a/", "a-", "a/a", "a//a", "a/a/a", "ab", "b/a"}
	for kinds := range 1 << len(texts) {
		var rules []api.Rule
		for i, text := range texts {
			rules = append(rules, api.Rule{Kind: 1 + kinds>>i&1, Text: text})
		}
		checkNorm(t, rules...)
	}
}

// Of nested places whose kinds turn each one is left, and of those whose kinds agree the first one.
func TestNormOfDeepPlaces(t *testing.T) {
	for depth := 1; depth <= 40; depth++ {
		var turning, agreeing, pairs []api.Rule
		for size := 1; size <= depth; size++ {
			turning = append(turning, api.Rule{Kind: 2 - size%2, Text: pathOf(size)})
			agreeing = append(agreeing, with(pathOf(size)))
			pairs = append(pairs, api.Rule{Kind: 1 + (size-1)/2%2, Text: pathOf(size)})
		}
		if got := norm.Norm(turning...); !slices.Equal(got, turning) {
			t.Errorf("Norm of %d places that turn = %v", depth, got)
		}
		if got := norm.Norm(agreeing...); !slices.Equal(got, list(with("n"))) {
			t.Errorf("Norm of %d places that agree = %v", depth, got)
		}
		if got := norm.Norm(pairs...); len(got) != (depth+1)/2 {
			t.Errorf("Norm of %d places that turn at each second one = %v", depth, got)
		}
		checkNorm(t, turning...)
		checkNorm(t, agreeing...)
		checkNorm(t, pairs...)
		checkNorm(t, append(turning, with("."), without(pathOf(depth/2+1)), typed("go"))...)
	}
}

func TestNormOfManyRules(t *testing.T) {
	var rules, want []api.Rule
	for i := range 1 << 16 {
		name := fmt.Sprintf("%06d", i)
		rules = append(rules, typed(name), without(name+"/a"), with(name+"/a/b"), with(name), with(name+"/b"))
		want = append(want, with(name), without(name+"/a"), with(name+"/a/b"))
	}
	for i := range 1 << 16 {
		want = append(want, typed(fmt.Sprintf("%06d", i)))
	}
	slices.Reverse(rules)
	if got := norm.Norm(rules...); !slices.Equal(got, want) {
		t.Errorf("Norm of %d rules has %d, want %d", len(rules), len(got), len(want))
	}
	if !norm.Same(rules, want) || norm.Same(rules[:len(rules)-1], want) {
		t.Error("Same of many rules is another one")
	}
}

func TestNormOfLongTexts(t *testing.T) {
	name, slashes := strings.Repeat("a", 1<<20), strings.Repeat("/", 1<<20)
	for i, c := range []example{
		{list(with(name), with(name+"/a"), without(name+"a")), list(with(name))},
		{list(with("."), without(name), with(name+"/"+name)), list(with("."), without(name), with(name+"/"+name))},
		{list(with(slashes), without(slashes+"/a"), with(slashes+"/b")), list(with(slashes), without(slashes+"/a"))},
		{list(with(slashes+name), with(slashes), without("/")), list(with(slashes), with(slashes+name))},
	} {
		if got := norm.Norm(c.rules...); !slices.Equal(got, c.want) || !norm.Same(c.rules, c.want) {
			t.Errorf("Norm of list %d of long texts has %d rules, and is another one", i, len(got))
		}
	}
}

func TestNormOfRandomRules(t *testing.T) {
	random := rand.New(rand.NewSource(10))
	parts := []string{"a", "b", "/", "/", "/", ".", "-", "ab", "a/"}
	text := func() string {
		s := ""
		for range random.Intn(7) {
			s += parts[random.Intn(len(parts))]
		}
		return s
	}
	for range 20000 {
		var rules []api.Rule
		for range random.Intn(12) {
			r := api.Rule{Kind: random.Intn(5), Text: text()}
			switch {
			case random.Intn(6) == 0:
				r.Text = "."
			case len(rules) > 0 && random.Intn(2) == 0:
				r.Text = rules[random.Intn(len(rules))].Text + []string{"", "/", "/a", "/b", "a", "-"}[random.Intn(6)]
			}
			rules = append(rules, r)
		}
		checkNorm(t, rules...)
	}
}

// P10.2

func TestSameExamples(t *testing.T) {
	for _, c := range []struct {
		a, b []api.Rule
		want bool
	}{
		{nil, nil, true},
		{nil, []api.Rule{}, true},
		{nil, list(without("a")), true},
		{nil, list(without(".")), true},
		{nil, list(with("a")), false},
		{nil, list(typed("a")), false},
		{nil, list(with("a"), without("a")), true},
		{nil, list(api.Rule{}, api.Rule{Kind: 4, Text: "a"}), true},
		{list(with("a")), list(with("a")), true},
		{list(with("a")), list(with("b")), false},
		{list(with("a")), list(without("a")), false},
		{list(with("a")), list(typed("a")), false},
		{list(with("a")), list(with("a"), with("b")), false},
		{list(with("a"), with("b")), list(with("a")), false},
		{list(with("a"), with("b")), list(with("b"), with("a")), true},
		{list(with("a"), with("a/b"), without("c")), list(with("a")), true},
		{list(with("a"), with("a/b")), list(without("d"), with("a/c"), with("a")), true},
		{list(with("a"), without("a/b")), list(with("a")), false},
		{list(with("."), without("a")), list(without("a"), with("."), with("b")), true},
		{list(with(".")), list(with("."), with("a"), with("b/c")), true},
		{list(with(".")), list(with("a")), false},
		{list(with("a"), with("ab")), list(with("a")), false},
		{list(with("a"), with("a-")), list(with("a")), false},
		{list(with("a"), with("a/")), list(with("a")), false},
		{list(with("a"), with("a//")), list(with("a")), true},
		{list(with("")), list(with(".")), false},
		{list(typed("go"), with("a")), list(with("a"), typed("go"), typed("go")), true},
		{list(typed("go"), with("a")), list(with("a")), false},
		{list(typed("go")), list(typed("txt")), false},
		{list(typed("go"), typed("txt")), list(typed("txt"), typed("go")), true},
		{list(typed("go"), typed("txt")), list(typed("go")), false},
		{list(typed(".")), list(with(".")), false},
		{list(typed("a")), list(without("a")), false},
		{list(with("a"), api.Rule{Kind: 9, Text: "b"}), list(with("a")), true},
		{list(with("A")), list(with("a")), false},
	} {
		if got := norm.Same(c.a, c.b); got != c.want {
			t.Errorf("Same(%v, %v) = %v, want %v", c.a, c.b, got, c.want)
		}
		checkSame(t, c.a, c.b)
		checkSame(t, c.a, c.a)
		checkSame(t, append(slices.Clone(c.a), typed("x")), append(list(typed("x")), c.b...))
	}
}

func TestSameOfAllShortLists(t *testing.T) {
	from := list(with("."), without("."), with("a"), without("a"), with("a/b"), without("a/b"), with("a/"), typed("a"), api.Rule{Kind: 4, Text: "a"})
	lists := append(shortLists(2, from...), list(with("a"), without("a/b"), with(".")), list(with("."), with("a"), without("a/b")), list(typed("a"), with("a"), with(".")))
	for _, a := range lists {
		for _, b := range lists {
			checkSame(t, a, b)
		}
	}
}

// Rules that lack one, or have one of another kind or Text, are mostly others: where they are not, the plain one says so too.
func TestSameOfRandomRules(t *testing.T) {
	random := rand.New(rand.NewSource(2))
	texts := []string{".", "", "a", "a/", "a/b", "a/b/c", "ab", "a-", "-", "b", "b/a", "/a"}
	for range 20000 {
		var a []api.Rule
		for range 1 + random.Intn(8) {
			a = append(a, api.Rule{Kind: 1 + random.Intn(3), Text: texts[random.Intn(len(texts))]})
		}
		b := slices.Clone(a)
		random.Shuffle(len(b), func(i, j int) { b[i], b[j] = b[j], b[i] })
		checkSame(t, a, b)
		checkSame(t, a, b[1:])
		b[0].Kind = random.Intn(5)
		checkSame(t, a, b)
		b[len(b)-1].Text = texts[random.Intn(len(texts))]
		checkSame(t, a, b)
	}
}

// P10.3: checkNorm holds all of it at every list above, and here at valid rules alone.

func TestNormOfValidRules(t *testing.T) {
	random := rand.New(rand.NewSource(3))
	texts := []string{".", "a", "a/b", "a/b/c", "a/b c", "a b", "ab", "a.b", "a-b", ".a", "...", "-", "!", "with a", pathOf(1), pathOf(2), pathOf(15), pathOf(16)}
	types := []string{"go", "txt", "a b", "-", "1234567"}
	for range 20000 {
		var rules []api.Rule
		for range random.Intn(17) {
			r := api.Rule{Kind: 1 + random.Intn(2), Text: texts[random.Intn(len(texts))]}
			if random.Intn(8) == 0 {
				r = typed(types[random.Intn(len(types))])
			}
			rules = append(rules, r)
		}
		if !valid(rules) || !nested(rules) {
			t.Fatalf("%v is not valid", rules)
		}
		checkNorm(t, rules...)
		if _, err := glob.Print(norm.Norm(rules...)...); err != api.OK {
			t.Errorf("Norm(%v) is not valid: %v", rules, err)
		}
	}
}

func TestNormInAllOrders(t *testing.T) {
	for _, rules := range [][]api.Rule{
		list(with("."), without("a"), with("a/b"), typed("go"), typed("txt"), without("-")),
		list(with("a"), without("a"), with("a/b"), without("a/b/c"), with("b"), without("b/c")),
		list(with("."), without("."), with("a"), typed("go"), without("b"), typed(".")),
		list(with("a"), with("a"), without("a"), typed(""), with(""), without("/a")),
		list(with("a/b"), api.Rule{Kind: 0, Text: "a"}, without("a"), with("."), api.Rule{Kind: 4, Text: "go"}, with("!")),
		list(with("."), without("a"), with("a/"), without("a//b"), with("a/b"), with("a-")),
	} {
		want := norm.Norm(rules...)
		each(rules, func(order []api.Rule) {
			if got := norm.Norm(order...); !slices.Equal(got, want) {
				t.Errorf("Norm(%v) = %v, and %v in the order %v", order, got, want, rules)
			}
			if !norm.Same(order, rules) {
				t.Errorf("%v and %v are not the same", order, rules)
			}
		})
	}
}

// R1 to R3

func TestArgumentsStayAsTheyAre(t *testing.T) {
	kept := list(typed("go"), with("b"), without("a/b"), with("."), without("z"), with("a"))
	whole := slices.Clone(kept)
	if got, want := norm.Norm(whole[:4]...), list(with("."), without("a/b"), typed("go")); !slices.Equal(got, want) {
		t.Errorf("Norm = %v, want %v", got, want)
	}
	if !slices.Equal(whole, kept) {
		t.Errorf("%v became %v", kept, whole)
	}
	if norm.Same(whole[:4], whole) || !norm.Same(whole[:2], whole[:2]) {
		t.Error("Same is another one")
	}
	if !slices.Equal(whole, kept) {
		t.Errorf("%v became %v", kept, whole)
	}
}

func TestAnswersAreNewMemory(t *testing.T) {
	for _, rules := range [][]api.Rule{
		list(with("."), without("a"), typed("go")),
		list(typed("go"), without("a"), with("."), with("b")),
		list(typed("txt"), typed("go"), typed("go")),
		list(with("a")),
	} {
		kept, want := slices.Clone(rules), plainNorm(rules)
		first, again := norm.Norm(rules...), norm.Norm(rules...)
		_ = append(first[:1], api.Rule{Kind: 9, Text: "spoilt"})
		for i := range first {
			first[i] = api.Rule{Kind: 2, Text: "spoilt"}
		}
		_ = append(first, api.Rule{Kind: 9, Text: "spoilt"})
		if !slices.Equal(rules, kept) {
			t.Errorf("%v became %v with the answer", kept, rules)
		}
		if !slices.Equal(again, want) {
			t.Errorf("an answer became %v with another one", again)
		}
		if later := norm.Norm(rules...); !slices.Equal(later, want) || !norm.Same(rules, again) {
			t.Errorf("Norm(%v) behind a spoilt answer = %v", rules, later)
		}
		for i := range rules {
			rules[i] = api.Rule{Kind: 1, Text: "spoilt"}
		}
		if !slices.Equal(again, want) {
			t.Errorf("an answer became %v with its rules", again)
		}
	}
}

func TestTextsAreNewMemory(t *testing.T) {
	place, ending := strings.Clone("abc/d"), strings.Clone("text")
	rules := norm.Norm(with(place), typed(ending))
	if len(rules) != 2 {
		t.Fatalf("Norm = %v", rules)
	}
	for _, r := range rules {
		at := unsafe.StringData(r.Text)
		if at == unsafe.StringData(place) || at == unsafe.StringData(ending) {
			t.Errorf("%v shares memory with an argument of Norm", r)
		}
	}
}

func TestAnswersHangOnTheArgumentsAlone(t *testing.T) {
	lists := shortLists(3, with("."), without("a"), with("a/b"), typed("go"), without(""), with("b"))
	var wait sync.WaitGroup
	for range 8 {
		wait.Go(func() {
			for i, rules := range lists {
				checkNorm(t, rules...)
				checkSame(t, rules, lists[(i+1)%len(lists)])
			}
		})
	}
	wait.Wait()
}

// Ways

func TestRulesAreVariadic(t *testing.T) {
	var _ func(...api.Rule) []api.Rule = norm.Norm
	if got, want := norm.Norm(with("b"), typed("c"), with("a")), list(with("a"), with("b"), typed("c")); !slices.Equal(got, want) {
		t.Errorf("Norm of three rules = %v, want %v", got, want)
	}
}

func TestKindsStandInAMap(t *testing.T) {
	file, err := parser.ParseFile(token.NewFileSet(), "norm.go", nil, parser.SkipObjectResolution)
	if err != nil {
		t.Fatal(err)
	}
	maps := 0
	ast.Inspect(file, func(n ast.Node) bool {
		if m, ok := n.(*ast.CompositeLit); ok {
			if _, ok := m.Type.(*ast.MapType); ok {
				maps++
			}
		}
		return true
	})
	if maps == 0 {
		t.Error("norm.go makes no map")
	}
}

// FuzzNorm takes each line as a rule: its first byte as the kind, the others as the Text.
func FuzzNorm(f *testing.F) {
	f.Add("1a\n1a/b\n2c", "1a")
	f.Add("1.\n2a\n1a/\n2a//b", "3go\n3.")
	f.Add("2\n1/a\n4.", "0\n1-\n1!")
	rulesOf := func(text string) []api.Rule {
		var rules []api.Rule
		for _, line := range strings.Split(text, "\n") {
			if line != "" {
				rules = append(rules, api.Rule{Kind: int(line[0]) - '0', Text: line[1:]})
			}
		}
		return rules
	}
	f.Fuzz(func(t *testing.T, one, other string) {
		a, b := rulesOf(one), rulesOf(other)
		checkNorm(t, a...)
		checkNorm(t, append(slices.Clone(a), b...)...)
		checkSame(t, a, b)
	})
}
