package names_test

import (
	"math"
	"math/rand"
	"regexp"
	"slices"
	"strconv"
	"strings"
	"sync"
	"testing"
	"unsafe"

	"arbour/api"
	"arbour/names"
)

// plainName is the chapter's names, but for the two that are dots alone.
var plainName = regexp.MustCompile(`\A[!-.0-~]([ -.0-~]{0,22}[!-.0-~])?\z`)

// plainRight is the chapter's answer, by another way than the package's.
func plainRight(name string) api.Errno {
	if plainName.MatchString(name) && name != "." && name != ".." {
		return api.OK
	}
	return api.ErrName
}

func plainExt(name string) string {
	if name == "" || !strings.Contains(name[1:], ".") {
		return ""
	}
	parts := strings.Split(name, ".")
	return parts[len(parts)-1]
}

func plainCopy(name string, n int) (string, api.Errno) {
	if plainRight(name) != api.OK {
		return "", api.ErrName
	}
	if n <= 0 || n >= 10000 {
		return "", api.ErrArg
	}
	stem, ending := name, ""
	if ext := plainExt(name); ext != "" && len(ext) < 8 {
		ending = "." + ext
		stem = strings.TrimSuffix(name, ending)
	}
	for {
		made := stem + "~" + strconv.Itoa(n) + ending
		if len(made) <= 24 {
			return made, api.OK
		}
		stem = stem[:len(stem)-1]
	}
}

func plainUnique(list []string) ([]string, api.Errno) {
	if len(list) > 1000 {
		return nil, api.ErrBig
	}
	for _, name := range list {
		if plainRight(name) != api.OK {
			return nil, api.ErrName
		}
	}
	var unique []string
	for i, name := range list {
		for n := 1; slices.Contains(list[:i], name); n++ {
			made, _ := plainCopy(name, n)
			if !slices.Contains(list, made) && !slices.Contains(unique, made) {
				name = made
				break
			}
		}
		unique = append(unique, name)
	}
	return unique, api.OK
}

func checkRight(t *testing.T, name string) {
	t.Helper()
	if got, want := names.Right(name), plainRight(name); got != want {
		t.Errorf("Right(%q) = %v, want %v", name, got, want)
	}
}

func checkExt(t *testing.T, name string) {
	t.Helper()
	if got, want := names.Ext(name), plainExt(name); got != want {
		t.Errorf("Ext(%q) = %q, want %q", name, got, want)
	}
}

// checkCopy holds a copy against the plain one, and against P5.4.
func checkCopy(t *testing.T, name string, n int) {
	t.Helper()
	got, err := names.Copy(name, n)
	if want, wantErr := plainCopy(name, n); got != want || err != wantErr {
		t.Errorf("Copy(%q, %d) = %q, %v, want %q, %v", name, n, got, err, want, wantErr)
	}
	if err != api.OK {
		return
	}
	if names.Right(got) != api.OK {
		t.Errorf("Copy(%q, %d) = %q, which is not a name", name, n, got)
	}
	if ext := names.Ext(name); len(ext) >= 1 && len(ext) <= 7 && names.Ext(got) != ext {
		t.Errorf("Copy(%q, %d) = %q, of another extension", name, n, got)
	}
}

// checkUnique holds unique names against the plain ones, and against P5.4.
func checkUnique(t *testing.T, list ...string) {
	t.Helper()
	kept := slices.Clone(list)
	got, err := names.Unique(list...)
	if want, wantErr := plainUnique(list); !slices.Equal(got, want) || err != wantErr {
		t.Errorf("Unique(%q) = %q, %v, want %q, %v", list, got, err, want, wantErr)
	}
	if !slices.Equal(list, kept) {
		t.Errorf("%q became %q", kept, list)
	}
	if err == api.OK {
		checkNoneTwice(t, list, got)
	}
}

// checkNoneTwice tells whether answers are names, each once, and unchanged where they occurred once.
func checkNoneTwice(t *testing.T, list, unique []string) {
	t.Helper()
	occurs, given := map[string]int{}, map[string]bool{}
	for _, name := range list {
		occurs[name]++
	}
	for i, name := range unique {
		if given[name] || names.Right(name) != api.OK || occurs[list[i]] == 1 && name != list[i] {
			t.Errorf("Unique(%q) has %q at %d", list, name, i)
		}
		given[name] = true
	}
}

// shortTexts is all texts of up to so many of the bytes.
func shortTexts(size int, alphabet string) []string {
	texts := []string{""}
	shorter := texts
	for range size {
		var longer []string
		for _, s := range shorter {
			for i := range len(alphabet) {
				longer = append(longer, s+alphabet[i:i+1])
			}
		}
		texts = append(texts, longer...)
		shorter = longer
	}
	return texts
}

// shortLists is all lists of up to so many of the names.
func shortLists(size int, from ...string) [][]string {
	lists := [][]string{{}}
	shorter := lists
	for range size {
		var longer [][]string
		for _, list := range shorter {
			for _, name := range from {
				longer = append(longer, append(slices.Clone(list), name))
			}
		}
		lists = append(lists, longer...)
		shorter = longer
	}
	return lists
}

// many is so many different names.
func many(size int) []string {
	var list []string
	for i := range size {
		list = append(list, "n"+strconv.Itoa(i))
	}
	return list
}

// edgeNumbers is numbers of copies around which their digits grow, and around which they are none.
func edgeNumbers() []int {
	return []int{math.MinInt, -1, 0, 1, 2, 9, 10, 11, 99, 100, 101, 999, 1000, 1001, 9998, 9999, 10000, 10001, 1 << 32, 1<<32 + 1, math.MaxInt}
}

// edgeBytes is each byte at which a text becomes a name or none, and one that is no character.
const edgeBytes = "\x1f !-./0a~\x7f\xff"

// P5.1

func TestRightExamples(t *testing.T) {
	for name, want := range map[string]api.Errno{
		"a":                            api.OK,
		"a.txt":                        api.OK,
		"A b~1.txt":                    api.OK,
		".a":                           api.OK,
		"a.":                           api.OK,
		"...":                          api.OK,
		"..a":                          api.OK,
		". .":                          api.OK,
		"a b":                          api.OK,
		"a  b":                         api.OK,
		"!":                            api.OK,
		"~":                            api.OK,
		"\\":                           api.OK,
		"\"'*?:|<>":                    api.OK,
		"abcdefghijklmnopqrstuvwx":     api.OK,
		"a                      b":     api.OK,
		"abcdefghijklmnopqrstuvwxy":    api.ErrName,
		"a                       b":    api.ErrName,
		"":                             api.ErrName,
		".":                            api.ErrName,
		"..":                           api.ErrName,
		" ":                            api.ErrName,
		"  ":                           api.ErrName,
		" a":                           api.ErrName,
		"a ":                           api.ErrName,
		" a ":                          api.ErrName,
		" .":                           api.ErrName,
		". ":                           api.ErrName,
		"/":                            api.ErrName,
		"a/b":                          api.ErrName,
		"/a":                           api.ErrName,
		"a/":                           api.ErrName,
		"a\x00":                        api.ErrName,
		"a\n":                          api.ErrName,
		"\ta":                          api.ErrName,
		"a\x1fb":                       api.ErrName,
		"a\x7fb":                       api.ErrName,
		"ü":                            api.ErrName,
		"a\x80":                        api.ErrName,
		"\xff":                         api.ErrName,
		"\xc2\xa0":                     api.ErrName,
		strings.Repeat("a", 1<<20):     api.ErrName,
		strings.Repeat("a", 256+1):     api.ErrName,
		strings.Repeat(".", 24):        api.OK,
		strings.Repeat("ü", 12):        api.ErrName,
		strings.Repeat("a", 24) + " ":  api.ErrName,
		strings.Repeat("a", 23) + " ":  api.ErrName,
		strings.Repeat("a", 22) + " b": api.OK,
	} {
		if got := names.Right(name); got != want {
			t.Errorf("Right(%q) = %v, want %v", name, got, want)
		}
	}
}

func TestRightOfEachSize(t *testing.T) {
	for size := range 300 {
		want := api.ErrName
		if size >= 1 && size <= 24 {
			want = api.OK
		}
		if got := names.Right(strings.Repeat("x", size)); got != want {
			t.Errorf("Right of %d bytes = %v, want %v", size, got, want)
		}
	}
}

func TestRightOfEachByte(t *testing.T) {
	for b := range 256 {
		within, outside := api.OK, api.OK
		if b < 32 || b > 126 || b == '/' {
			within, outside = api.ErrName, api.ErrName
		}
		if b == ' ' {
			outside = api.ErrName
		}
		s := string([]byte{byte(b)})
		for name, want := range map[string]api.Errno{"a" + s + "b": within, s + "b": outside, "a" + s: outside, "abcdefghijkl" + s + "mnopqrstuvw": within, "abcdefghijklmnopqrstuvw" + s: outside} {
			if got := names.Right(name); got != want {
				t.Errorf("Right(%q) = %v, want %v", name, got, want)
			}
		}
		alone := outside
		if b == '.' {
			alone = api.ErrName
		}
		if got := names.Right(s); got != alone {
			t.Errorf("Right(%q) = %v, want %v", s, got, alone)
		}
	}
}

func TestRightAndExtOfAllShortTexts(t *testing.T) {
	for _, s := range shortTexts(4, edgeBytes) {
		checkRight(t, s)
		checkExt(t, s)
		checkRight(t, s+strings.Repeat("x", 20)+s)
	}
}

func TestExtExamples(t *testing.T) {
	for name, want := range map[string]string{
		"":                  "",
		"a":                 "",
		".":                 "",
		"..":                "",
		"...":               "",
		".a":                "",
		".abc":              "",
		"a.":                "",
		"a..":               "",
		".a.":               "",
		"a.b":               "b",
		"..b":               "b",
		"...b":              "b",
		".a.b":              "b",
		"a.b.c":             "c",
		"a..c":              "c",
		"a.txt":             "txt",
		"a.tar.gz":          "gz",
		"a.1234567":         "1234567",
		"a.12345678":        "12345678",
		"a.b c":             "b c",
		"a.b ":              "b ",
		" .b":               "b",
		"a.b/c":             "b/c",
		"a/.b":              "b",
		"/.":                "",
		"\x00.\xff":         "\xff",
		"ü.ü":               "ü",
		"x.\n":              "\n",
		"a.b.c.d.e.f.g.h.i": "i",
		strings.Repeat("a", 5000) + "." + strings.Repeat("b", 5000): strings.Repeat("b", 5000),
		strings.Repeat(".", 5000) + "b":                             "b",
		"." + strings.Repeat("b", 5000):                             "",
	} {
		if got := names.Ext(name); got != want {
			t.Errorf("Ext(%q) = %q, want %q", name, got, want)
		}
	}
}

// P5.2

func TestCopyExamples(t *testing.T) {
	for _, c := range []struct {
		name string
		n    int
		want string
	}{
		{"a.txt", 2, "a~2.txt"},
		{"a", 1, "a~1"},
		{"a", 9999, "a~9999"},
		{"a.b", 10, "a~10.b"},
		{"a~1", 1, "a~1~1"},
		{"a~1.txt", 2, "a~1~2.txt"},
		{"a~", 1, "a~~1"},
		{"a.", 1, "a.~1"},
		{"a..", 1, "a..~1"},
		{"...", 1, "...~1"},
		{".a", 1, ".a~1"},
		{".a.", 1, ".a.~1"},
		{".a.b", 1, ".a~1.b"},
		{"..b", 1, ".~1.b"},
		{"...b", 1, "..~1.b"},
		{"a..b", 1, "a.~1.b"},
		{"a.tar.gz", 3, "a.tar~3.gz"},
		{"a. b", 1, "a~1. b"},
		{"a .b", 1, "a ~1.b"},
		{"a.b c", 1, "a~1.b c"},
		{"a.1234567", 1, "a~1.1234567"},
		{"a.12345678", 1, "a.12345678~1"},
		{"a.b.12345678", 1, "a.b.12345678~1"},
		{"abcdefghijklmnopqrstuv", 1, "abcdefghijklmnopqrstuv~1"},
		{"abcdefghijklmnopqrstuvw", 1, "abcdefghijklmnopqrstuv~1"},
		{"abcdefghijklmnopqrstuvwx", 1, "abcdefghijklmnopqrstuv~1"},
		{"abcdefghijklmnopqrstuvwx", 10, "abcdefghijklmnopqrstu~10"},
		{"abcdefghijklmnopqrstuvwx", 9999, "abcdefghijklmnopqrs~9999"},
		{"abcdefghijklmnopqr.txt", 1, "abcdefghijklmnopqr~1.txt"},
		{"abcdefghijklmnopqrs.txt", 1, "abcdefghijklmnopqr~1.txt"},
		{"abcdefghijklmnopqrst.txt", 1, "abcdefghijklmnopqr~1.txt"},
		{"abcdefghijklmnopqrst.txt", 9999, "abcdefghijklmno~9999.txt"},
		{"abcdefghijklmnop.1234567", 9999, "abcdefghijk~9999.1234567"},
		{"abcdefghijklmno.12345678", 9999, "abcdefghijklmno.123~9999"},
		{"a.bcdefghijklmnopqrstuvw", 1, "a.bcdefghijklmnopqrstu~1"},
		{"abcdefghijklmnopqrstuvw.", 1, "abcdefghijklmnopqrstuv~1"},
		{".bcdefghijklmnopqrstuvwx", 1, ".bcdefghijklmnopqrstuv~1"},
		{"abcdefghijklmnopqrstu wx", 1, "abcdefghijklmnopqrstu ~1"},
		{"........................", 12, ".....................~12"},
	} {
		if got, err := names.Copy(c.name, c.n); got != c.want || err != api.OK {
			t.Errorf("Copy(%q, %d) = %q, %v, want %q", c.name, c.n, got, err, c.want)
		}
		checkCopy(t, c.name, c.n)
	}
}

func TestCopyOfWrongArguments(t *testing.T) {
	for _, c := range []struct {
		name string
		n    int
		err  api.Errno
	}{
		{"a", 0, api.ErrArg},
		{"a", -1, api.ErrArg},
		{"a", 10000, api.ErrArg},
		{"a", math.MinInt, api.ErrArg},
		{"a", math.MaxInt, api.ErrArg},
		{"a", 1<<32 + 1, api.ErrArg},
		{"", 1, api.ErrName},
		{".", 1, api.ErrName},
		{"..", 1, api.ErrName},
		{" a", 1, api.ErrName},
		{"a ", 1, api.ErrName},
		{"a/b", 1, api.ErrName},
		{"a\x7f", 1, api.ErrName},
		{"\x1fa", 1, api.ErrName},
		{"abcdefghijklmnopqrstuvwxy", 1, api.ErrName},
		{"abcdefghijklmnopqrstu.txt", 1, api.ErrName},
		{"", 0, api.ErrName},
		{"a/b", 10000, api.ErrName},
		{"..", -1, api.ErrName},
	} {
		if got, err := names.Copy(c.name, c.n); got != "" || err != c.err {
			t.Errorf("Copy(%q, %d) = %q, %v, want %v", c.name, c.n, got, err, c.err)
		}
	}
}

func TestCopyOfEachNumber(t *testing.T) {
	seen := map[string]bool{}
	for n := -10; n <= 10010; n++ {
		checkCopy(t, "a.txt", n)
		checkCopy(t, "abcdefghijklmnop.1234567", n)
		if got, err := names.Copy("abcdefghijklmnopqrstu~~1", n); err == api.OK {
			seen[got] = true
		}
	}
	if len(seen) != 9999 {
		t.Errorf("9999 copies have %d names", len(seen))
	}
}

// A dot stands at each place of a name of each size, so that extensions and cut stems have each of theirs.
func TestCopyOfEachSize(t *testing.T) {
	for size := range 27 {
		letters := "abcdefghijklmnopqrstuvwxyz"[:size]
		for _, n := range edgeNumbers() {
			checkCopy(t, letters, n)
			for at := range size {
				checkCopy(t, letters[:at]+"."+letters[at+1:], n)
				checkCopy(t, letters[:at]+" "+letters[at+1:], n)
				if at > 0 {
					checkCopy(t, letters[:at-1]+".."+letters[at+1:], n)
				}
			}
		}
	}
}

func TestCopyOfAllShortTexts(t *testing.T) {
	for _, s := range shortTexts(4, edgeBytes) {
		for _, n := range []int{0, 1, 10, 9999, 10000} {
			checkCopy(t, s, n)
			checkCopy(t, s+"xxxxxxxxxxxxxxxx"+s, n)
		}
	}
}

// P5.3

func TestUniqueOfNoNames(t *testing.T) {
	if got, err := names.Unique(); len(got) != 0 || err != api.OK {
		t.Errorf("Unique() = %q, %v", got, err)
	}
	if got, err := names.Unique([]string{}...); len(got) != 0 || err != api.OK {
		t.Errorf("Unique of an empty list = %q, %v", got, err)
	}
}

func TestUniqueExamples(t *testing.T) {
	for _, c := range []struct{ list, want []string }{
		{[]string{"a"}, []string{"a"}},
		{[]string{"a", "b"}, []string{"a", "b"}},
		{[]string{"b", "a"}, []string{"b", "a"}},
		{[]string{"a", "A"}, []string{"a", "A"}},
		{[]string{"a", "a"}, []string{"a", "a~1"}},
		{[]string{"a", "a", "a"}, []string{"a", "a~1", "a~2"}},
		{[]string{"a", "a", "a~1"}, []string{"a", "a~2", "a~1"}},
		{[]string{"a~1", "a", "a"}, []string{"a~1", "a", "a~2"}},
		{[]string{"a", "a~1", "a"}, []string{"a", "a~1", "a~2"}},
		{[]string{"a", "a", "a~2", "a"}, []string{"a", "a~1", "a~2", "a~3"}},
		{[]string{"a", "a", "a", "a~1", "a~1"}, []string{"a", "a~2", "a~3", "a~1", "a~1~1"}},
		{[]string{"a", "a", "a~1", "a~1", "a~1~1"}, []string{"a", "a~2", "a~1", "a~1~2", "a~1~1"}},
		{[]string{"a~1", "a~1", "a", "a"}, []string{"a~1", "a~1~1", "a", "a~2"}},
		{[]string{"a", "b", "a", "b", "a"}, []string{"a", "b", "a~1", "b~1", "a~2"}},
		{[]string{"a.txt", "a.txt", "a~1.txt"}, []string{"a.txt", "a~2.txt", "a~1.txt"}},
		{[]string{"a.txt", "a.txt", "a.txt~1", "a~1"}, []string{"a.txt", "a~1.txt", "a.txt~1", "a~1"}},
		{[]string{"a.t", "a.u", "a.t", "a.u"}, []string{"a.t", "a.u", "a~1.t", "a~1.u"}},
		{[]string{".a", ".a", "a", "a."}, []string{".a", ".a~1", "a", "a."}},
		{
			[]string{"abcdefghijklmnopqrstuvwx", "abcdefghijklmnopqrstuvwy", "abcdefghijklmnopqrstuvwy", "abcdefghijklmnopqrstuvwx"},
			[]string{"abcdefghijklmnopqrstuvwx", "abcdefghijklmnopqrstuvwy", "abcdefghijklmnopqrstuv~1", "abcdefghijklmnopqrstuv~2"},
		},
		{
			[]string{"abcdefghijklmnopqrstuv~1", "abcdefghijklmnopqrstuv~1", "abcdefghijklmnopqrstuvwx", "abcdefghijklmnopqrstuvwx"},
			[]string{"abcdefghijklmnopqrstuv~1", "abcdefghijklmnopqrstuv~2", "abcdefghijklmnopqrstuvwx", "abcdefghijklmnopqrstuv~3"},
		},
	} {
		got, err := names.Unique(c.list...)
		if !slices.Equal(got, c.want) || err != api.OK {
			t.Errorf("Unique(%q) = %q, %v, want %q", c.list, got, err, c.want)
		}
		checkUnique(t, c.list...)
	}
}

func TestUniqueOfAllShortLists(t *testing.T) {
	for _, list := range shortLists(6, "a", "a~1", "a~2", "a~1~1") {
		checkUnique(t, list...)
	}
	for _, list := range shortLists(5, "a.t", "a~1.t", "a~2.t", "a.t~1", "a") {
		checkUnique(t, list...)
	}
	const stem = "abcdefghijklmnopqrstuv"
	for _, list := range shortLists(6, stem, stem+"wx", stem+"~1", stem+"~2") {
		checkUnique(t, list...)
	}
}

func TestUniqueOfWrongNames(t *testing.T) {
	for _, wrong := range []string{"", ".", "..", " a", "a ", "a/b", "\x1f", "\x7f", "ü", "abcdefghijklmnopqrstuvwxy"} {
		for _, list := range [][]string{{wrong}, {wrong, "a"}, {"a", wrong}, {"a", "a", wrong}, {wrong, wrong}, {"a", wrong, "a"}} {
			if got, err := names.Unique(list...); len(got) != 0 || err != api.ErrName {
				t.Errorf("Unique(%q) = %q, %v", list, got, err)
			}
		}
	}
}

func TestUniqueOfManyNames(t *testing.T) {
	for _, size := range []int{999, 1000, 1001, 5000} {
		list := many(size)
		got, err := names.Unique(list...)
		if size <= 1000 && (!slices.Equal(got, list) || err != api.OK) {
			t.Errorf("Unique of %d names is %d names, %v", size, len(got), err)
		}
		if size > 1000 && (len(got) != 0 || err != api.ErrBig) {
			t.Errorf("Unique of %d names is %d names, %v", size, len(got), err)
		}
		list[0], list[size-1] = "a/b", ""
		want := api.ErrName
		if size > 1000 {
			want = api.ErrBig
		}
		if got, err := names.Unique(list...); len(got) != 0 || err != want {
			t.Errorf("Unique of %d names, two of them wrong, is %d names, %v", size, len(got), err)
		}
	}
}

func TestUniqueOfTheLastWrongName(t *testing.T) {
	list := many(1000)
	list[999] = "a "
	if got, err := names.Unique(list...); len(got) != 0 || err != api.ErrName {
		t.Errorf("Unique = %d names, %v", len(got), err)
	}
}

func TestUniqueOfOneNameOftenAndOften(t *testing.T) {
	for _, name := range []string{"a", "a.txt", "abcdefghijklmnopqrstuvwx", "abcdefghijklmnop.1234567"} {
		list := slices.Repeat([]string{name}, 1000)
		got, err := names.Unique(list...)
		if err != api.OK || len(got) != 1000 || got[0] != name {
			t.Fatalf("Unique of 1000 times %q = %q, %v", name, got, err)
		}
		for n := 1; n < 1000; n++ {
			if want, _ := plainCopy(name, n); got[n] != want {
				t.Errorf("copy %d of %q is %q, want %q", n, name, got[n], want)
			}
		}
		if got, err := names.Unique(append(list, name)...); len(got) != 0 || err != api.ErrBig {
			t.Errorf("Unique of 1001 times %q = %d names, %v", name, len(got), err)
		}
	}
}

// Names of which the first copies are all taken go on behind them.
func TestUniqueBesideManyCopies(t *testing.T) {
	list := slices.Repeat([]string{"a.b"}, 500)
	for n := 1; n <= 500; n++ {
		list = append(list, "a~"+strconv.Itoa(n)+".b")
	}
	got, err := names.Unique(list...)
	if err != api.OK || !slices.Equal(got[500:], list[500:]) || got[0] != "a.b" {
		t.Fatalf("Unique = %q, %v", got, err)
	}
	for i := 1; i < 500; i++ {
		if want := "a~" + strconv.Itoa(500+i) + ".b"; got[i] != want {
			t.Errorf("copy %d is %q, want %q", i, got[i], want)
		}
	}
	slices.Reverse(list)
	checkUnique(t, list...)
}

// Different names whose stems are cut to the same one take their copies' numbers in turns.
func TestUniqueOfManyCutStems(t *testing.T) {
	var list []string
	for i := range 500 {
		list = append(list, "abcdefghijklmnopqrst"+strconv.Itoa(1000+i))
	}
	checkUnique(t, append(list, list...)...)
	checkUnique(t, slices.Concat(list[:300], []string{"abcdefghijklmnopqrstu~10", "abcdefghijklmnopqrst~100"}, list[:300], list[:300])...)
}

func TestUniqueOfRandomLists(t *testing.T) {
	random := rand.New(rand.NewSource(5))
	parts := []string{"a", "b", "~1", "~2", "~10", ".", ".t", "abcdefghijk", "~"}
	for range 3000 {
		var from []string
		for range 1 + random.Intn(6) {
			name := ""
			for range 1 + random.Intn(4) {
				name += parts[random.Intn(len(parts))]
			}
			if plainRight(name) == api.OK || random.Intn(40) == 0 {
				from = append(from, name)
			}
		}
		var list []string
		for i := 0; i < random.Intn(40) && len(from) > 0; i++ {
			list = append(list, from[random.Intn(len(from))])
		}
		checkUnique(t, list...)
	}
}

// P5.4: checkCopy and checkUnique hold it at every list and name above.

func TestUniqueOfUniqueNamesIsTheSame(t *testing.T) {
	for _, list := range shortLists(5, "a", "a~1", "a~2", "b.c") {
		once, _ := names.Unique(list...)
		again, err := names.Unique(once...)
		if !slices.Equal(once, again) || err != api.OK {
			t.Errorf("Unique of %q = %q, %v", once, again, err)
		}
	}
}

// R1 to R3

func TestArgumentsStayAsTheyAre(t *testing.T) {
	whole := []string{"a", "a", "a~1", "z", "z"}
	if got, _ := names.Unique(whole[:3]...); !slices.Equal(got, []string{"a", "a~2", "a~1"}) {
		t.Errorf("Unique = %q", got)
	}
	if !slices.Equal(whole, []string{"a", "a", "a~1", "z", "z"}) {
		t.Errorf("the names became %q", whole)
	}
}

func TestAnswersAreNewMemory(t *testing.T) {
	list := []string{"a.txt", "b.txt", "a.txt"}
	first, _ := names.Unique(list...)
	again, _ := names.Unique(list...)
	for i := range first {
		first[i] = "spoilt"
	}
	list[0], list[1], list[2] = "x", "y", "z"
	if !slices.Equal(again, []string{"a.txt", "b.txt", "a~1.txt"}) {
		t.Errorf("an answer became %q with another one", again)
	}
	if !slices.Equal(list, []string{"x", "y", "z"}) {
		t.Errorf("the names became %q with an answer", list)
	}
}

func TestTextsAreNewMemory(t *testing.T) {
	name := strings.Clone("abc.defg")
	if ext := names.Ext(name); unsafe.StringData(ext) == unsafe.StringData(name[4:]) {
		t.Error("Ext shares memory with its argument")
	}
	if unique, _ := names.Unique(name); unsafe.StringData(unique[0]) == unsafe.StringData(name) {
		t.Error("Unique shares memory with its argument")
	}
}

func TestAnswersHangOnTheArgumentsAlone(t *testing.T) {
	lists := shortLists(4, "a", "a~1", "a~2", "a.b")
	var wait sync.WaitGroup
	for range 8 {
		wait.Go(func() {
			for _, list := range lists {
				checkUnique(t, list...)
				for _, name := range list {
					checkCopy(t, name, 7)
				}
			}
		})
	}
	wait.Wait()
}

// Ways

func TestNamesAreVariadic(t *testing.T) {
	var _ func(...string) ([]string, api.Errno) = names.Unique
	if got, err := names.Unique("a", "b", "a"); !slices.Equal(got, []string{"a", "b", "a~1"}) || err != api.OK {
		t.Errorf("Unique of three names = %q, %v", got, err)
	}
}

func FuzzName(f *testing.F) {
	f.Add("a.txt", 2)
	f.Add("abcdefghijklmnop.1234567", 9999)
	f.Add("..", 0)
	f.Add("\x1f/\x7f ", 10000)
	f.Fuzz(func(t *testing.T, name string, n int) {
		checkRight(t, name)
		checkExt(t, name)
		checkCopy(t, name, n)
	})
}

func FuzzUnique(f *testing.F) {
	f.Add("a\na\na~1")
	f.Add("a.txt\na~1.txt\na.txt\na.txt")
	f.Add("")
	f.Fuzz(func(t *testing.T, text string) {
		checkUnique(t, strings.Split(text, "\n")...)
	})
}
