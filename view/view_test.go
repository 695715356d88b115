package view_test

import (
	"fmt"
	"go/ast"
	"go/parser"
	"go/token"
	"math"
	"math/rand"
	"slices"
	"sort"
	"strings"
	"sync"
	"testing"
	"unsafe"

	"arbour/api"
	"arbour/names"
	"arbour/tree"
	"arbour/view"
)

func at(count, who int) api.Stamp { return api.Stamp{Count: count, Who: who} }

func root() api.Stamp { return at(0, 0) }

func trash() api.Stamp { return at(0, 1) }

func none() api.Stamp { return at(77, 7) }

func dir(id, parent api.Stamp, name string) api.Node {
	return api.Node{ID: id, Dir: true, Parent: parent, Name: name}
}

// file is one whose manifest is its own, so that no other one's is taken for it.
func file(id, parent api.Stamp, name string) api.Node {
	return api.Node{ID: id, Parent: parent, Name: name, Manifest: fmt.Sprint("of ", id, name)}
}

// item is the one of a node at a path.
func item(path string, n api.Node) api.Item {
	return api.Item{Path: path, ID: n.ID, Dir: n.Dir, Manifest: n.Manifest}
}

func list(nodes ...api.Node) []api.Node { return nodes }

func items(of ...api.Item) []api.Item { return of }

// task is a directory that is still to be visited: a parent and the names of its path.
type task struct {
	parent api.Stamp
	path   []string
}

// plainView is the chapter's procedure with a stack of directories, of which the next one is the last.
func plainView(nodes []api.Node) ([]api.Item, api.Errno) {
	var found []api.Item
	for stack := []task{{}}; len(stack) > 0; {
		next := stack[len(stack)-1]
		stack = stack[:len(stack)-1]
		var children []api.Node
		var called []string
		for _, n := range nodes {
			if n.Parent == next.parent {
				children, called = append(children, n), append(called, n.Name)
			}
		}
		called, err := names.Unique(called...)
		if err != api.OK {
			return nil, err
		}
		var below []task
		for i, n := range children {
			path := append(slices.Clone(next.path), called[i])
			there := slices.ContainsFunc(found, func(x api.Item) bool { return x.ID == n.ID })
			if there || len(path) > 16 {
				return nil, api.ErrBig
			}
			found = append(found, item(strings.Join(path, "/"), n))
			if n.Dir {
				below = append(below, task{n.ID, path})
			}
		}
		slices.Reverse(below)
		stack = append(stack, below...)
	}
	sort.Slice(found, func(i, j int) bool { return found[i].Path < found[j].Path })
	return found, api.OK
}

// byParents is nodes, those of one parent behind the other, in their order.
func byParents(nodes []api.Node, less func(a, b api.Stamp) bool) []api.Node {
	sorted := slices.Clone(nodes)
	sort.SliceStable(sorted, func(i, j int) bool { return less(sorted[i].Parent, sorted[j].Parent) })
	return sorted
}

func less(a, b api.Stamp) bool {
	return a.Count < b.Count || a.Count == b.Count && a.Who < b.Who
}

func more(a, b api.Stamp) bool { return less(b, a) }

// checkView holds View against the plain one, also where the nodes of different parents stand in another order among each other, and against what holds of every view.
func checkView(t *testing.T, nodes ...api.Node) {
	t.Helper()
	kept := slices.Clone(nodes)
	want, wantErr := plainView(kept)
	for _, order := range [][]api.Node{nodes, byParents(nodes, less), byParents(nodes, more)} {
		got, err := view.View(order...)
		if err != wantErr || !slices.Equal(got, want) {
			t.Fatalf("View(%v) = %v, %v, want %v, %v", order, got, err, want, wantErr)
		}
	}
	if !slices.Equal(nodes, kept) {
		t.Fatalf("the nodes %v became %v", kept, nodes)
	}
	got, err := view.View(nodes...)
	if err != api.OK && got != nil {
		t.Fatalf("View(%v) = %v beside %v", nodes, got, err)
	}
	checkItems(t, nodes, got)
}

// checkItems holds of items that they are sorted, each once, each one's directory among them, and each one as its node; and asks for each of them.
func checkItems(t *testing.T, nodes []api.Node, got []api.Item) {
	t.Helper()
	for i, x := range got {
		if i > 0 && got[i-1].Path >= x.Path {
			t.Fatalf("%q stands ahead of %q", got[i-1].Path, x.Path)
		}
		above, there := nodeAbove(got, x)
		if !there || !slices.ContainsFunc(nodes, func(n api.Node) bool {
			return x == item(x.Path, n) && n.Parent == above
		}) {
			t.Fatalf("the item %v of %v is of no node of %v", x, got, nodes)
		}
		checkAsks(t, got, x.Path, x.ID)
		if found, ok := view.At(got, x.Path); found != x || !ok {
			t.Fatalf("At %q = %v, %v, want %v", x.Path, found, ok, x)
		}
		if found, ok := view.Of(got, x.ID); found != x || !ok {
			t.Fatalf("Of %v = %v, %v, want %v", x.ID, found, ok, x)
		}
	}
}

// nodeAbove is the node of the directory of an item, or the root.
func nodeAbove(of []api.Item, x api.Item) (api.Stamp, bool) {
	slash := strings.LastIndexByte(x.Path, '/')
	if slash < 0 {
		return root(), true
	}
	for _, above := range of {
		if above.Path == x.Path[:slash] && above.Dir {
			return above.ID, true
		}
	}
	return api.Stamp{}, false
}

// checkAsks holds At of a path and Of of a stamp against the plain ones.
func checkAsks(t *testing.T, of []api.Item, path string, id api.Stamp) {
	t.Helper()
	kept := slices.Clone(of)
	var atPath, ofNode []api.Item
	for _, x := range of {
		if x.Path == path {
			atPath = append(atPath, x)
		}
		if x.ID == id {
			ofNode = append(ofNode, x)
		}
	}
	check := func(what string, got api.Item, ok bool, all []api.Item) {
		t.Helper()
		want := append(all, api.Item{})[0]
		if got != want || ok != (len(all) > 0) {
			t.Fatalf("%s of %v = %v, %v, want %v", what, kept, got, ok, want)
		}
	}
	got, ok := view.At(of, path)
	check(fmt.Sprintf("At %q", path), got, ok, atPath)
	got, ok = view.Of(of, id)
	check(fmt.Sprint("Of ", id), got, ok, ofNode)
	if !slices.Equal(of, kept) {
		t.Fatalf("the items %v became %v", kept, of)
	}
}

// example is nodes and their items, or their error.
type example struct {
	what  string
	nodes []api.Node
	want  []api.Item
	err   api.Errno
}

func checkExamples(t *testing.T, examples []example) {
	t.Helper()
	for _, c := range examples {
		if got, err := view.View(c.nodes...); err != c.err || !slices.Equal(got, c.want) {
			t.Errorf("%s: View(%v) = %v, %v, want %v, %v", c.what, c.nodes, got, err, c.want, c.err)
		}
		checkView(t, c.nodes...)
	}
}

// P11.1

// The example of the chapter.
func TestExample(t *testing.T) {
	one, two := file(at(1, 0), root(), "a"), file(at(2, 0), root(), "a")
	checkExamples(t, []example{
		{"two nodes a at the root", list(one, two), items(item("a", one), item("a~1", two)), api.OK},
	})
}

func TestNoNodes(t *testing.T) {
	if got, err := view.View(); len(got) != 0 || err != api.OK {
		t.Errorf("View() = %v, %v", got, err)
	}
	checkExamples(t, []example{{"nil", nil, nil, api.OK}, {"an empty list", []api.Node{}, nil, api.OK}})
}

func TestOneNode(t *testing.T) {
	for _, n := range list(
		file(at(1, 0), root(), "a"),
		dir(at(1, 0), root(), "a"),
		file(at(1<<40, 14), root(), "abcdefghijklmnopqrstuvwx"),
		dir(at(3, 2), root(), "..."),
		file(at(0, 2), root(), "~"),
		file(at(-1, -1), root(), "a b.txt"),
		dir(at(math.MinInt, math.MaxInt), root(), ".a"),
		api.Node{ID: at(1, 0), Name: "empty"},
		api.Node{ID: at(1, 0), Name: "long", Manifest: strings.Repeat("\x00\xff", 999)},
		api.Node{ID: at(1, 0), Dir: true, Name: "d", Manifest: "of a directory"},
	) {
		checkExamples(t, []example{{"one node at the root", list(n), items(item(n.Name, n)), api.OK}})
		n.Parent = none()
		checkExamples(t, []example{{"one node below no node", list(n), nil, api.OK}})
		n.Parent = trash()
		checkExamples(t, []example{{"one node in the trash", list(n), nil, api.OK}})
	}
}

func TestNodesThatAreNotComeTo(t *testing.T) {
	a, b, c, d := at(1, 0), at(2, 0), at(3, 0), at(4, 0)
	shown := file(at(9, 0), root(), "shown")
	only := items(item("shown", shown))
	f := file(a, root(), "f")
	checkExamples(t, []example{
		{"in the trash", list(file(a, trash(), "a"), dir(b, trash(), "b"), shown), only, api.OK},
		{"below a directory in the trash", list(dir(a, trash(), "a"), dir(b, a, "b"), file(c, b, "c"), file(d, a, "d"), shown), only, api.OK},
		{"below no node", list(file(a, none(), "a"), dir(b, none(), "b"), file(c, b, "c"), shown), only, api.OK},
		{"below a stamp that is none", list(dir(a, at(-1, 0), "a"), dir(b, at(0, -1), "b"), file(c, at(0, 2), "c"), shown), only, api.OK},
		{"below a file", list(f, file(b, a, "b"), dir(c, a, "c"), file(d, c, "d"), shown), items(item("f", f), only[0]), api.OK},
		{"its own parent", list(dir(a, a, "a"), file(b, b, "b"), file(c, a, "c"), shown), only, api.OK},
		{"each other's", list(dir(a, b, "a"), dir(b, a, "b"), file(c, a, "c"), shown), only, api.OK},
		{"three in a circle", list(dir(a, c, "a"), dir(b, a, "b"), dir(c, b, "c"), file(d, c, "d"), shown), only, api.OK},
		{"the same name as in the root", list(file(a, trash(), "shown"), file(b, none(), "shown"), shown, file(c, c, "shown")), only, api.OK},
	})
}

func TestDirectoriesBelowDirectories(t *testing.T) {
	a, b := dir(at(1, 0), root(), "a"), dir(at(2, 0), at(1, 0), "b")
	c, x, y := dir(at(3, 0), at(2, 0), "c"), file(at(4, 0), at(2, 0), "x"), file(at(5, 0), at(1, 0), "y")
	e := dir(at(6, 0), root(), "e")
	want := items(item("a", a), item("a/b", b), item("a/b/c", c), item("a/b/x", x), item("a/y", y), item("e", e))
	checkExamples(t, []example{
		{"in their order", list(a, b, c, x, y, e), want, api.OK},
		{"turned", list(e, y, x, c, b, a), want, api.OK},
		{"mixed", list(x, a, y, e, c, b), want, api.OK},
		{"without the middle", list(a, c, x, y, e), items(want[0], want[4], want[5]), api.OK},
		{"without the top", list(b, c, x, y, e), items(want[5]), api.OK},
		{"the same name all the way down", list(dir(at(1, 0), root(), "n"), dir(at(2, 0), at(1, 0), "n"), file(at(3, 0), at(2, 0), "n")),
			items(item("n", dir(at(1, 0), root(), "n")), item("n/n", dir(at(2, 0), at(1, 0), "n")), item("n/n/n", file(at(3, 0), at(2, 0), "n"))), api.OK},
	})
}

func TestNamesThatAreThereTwice(t *testing.T) {
	a, b, c, d := at(1, 0), at(2, 0), at(3, 0), at(4, 0)
	x, y, z := file(a, root(), "n"), dir(b, root(), "n"), file(c, root(), "n")
	txt := func(id api.Stamp) api.Node { return file(id, root(), "n.txt") }
	p, q := dir(a, root(), "p"), dir(b, root(), "q")
	checkExamples(t, []example{
		{"a file first", list(x, y, z), items(item("n", x), item("n~1", y), item("n~2", z)), api.OK},
		{"a directory first", list(y, z, x), items(item("n", y), item("n~1", z), item("n~2", x)), api.OK},
		{"the greater stamp first", list(z, x), items(item("n", z), item("n~1", x)), api.OK},
		{"with an extension", list(txt(a), txt(c), txt(b)), items(item("n.txt", txt(a)), item("n~1.txt", txt(c)), item("n~2.txt", txt(b))), api.OK},
		{"below the copy of a directory", list(x, y, file(c, b, "n"), file(d, b, "n")),
			items(item("n", x), item("n~1", y), item("n~1/n", file(c, b, "n")), item("n~1/n~1", file(d, b, "n"))), api.OK},
		{"below both directories", list(y, dir(c, root(), "n"), file(d, c, "f"), file(a, b, "f")),
			items(item("n", y), item("n/f", file(a, b, "f")), item("n~1", dir(c, root(), "n")), item("n~1/f", file(d, c, "f"))), api.OK},
		{"in two directories", list(p, q, file(c, a, "n"), file(d, b, "n")),
			items(item("p", p), item("p/n", file(c, a, "n")), item("q", q), item("q/n", file(d, b, "n"))), api.OK},
		{"as a directory and in it", list(p, file(b, a, "p")), items(item("p", p), item("p/p", file(b, a, "p"))), api.OK},
		{"in upper case", list(x, file(b, root(), "N")), items(item("N", file(b, root(), "N")), item("n", x)), api.OK},
		{"in a directory and in the trash", list(file(d, trash(), "n"), x, file(c, none(), "n")), items(item("n", x)), api.OK},
	})
}

func TestNamesOfCopies(t *testing.T) {
	a, b, c := at(1, 0), at(2, 0), at(3, 0)
	x, y, copied := file(a, root(), "n"), file(b, root(), "n"), dir(c, root(), "n~1")
	long := "abcdefghijklmnopqrstuvwx"
	l, m := file(a, root(), long), file(b, root(), long)
	checkExamples(t, []example{
		{"the copy's name behind", list(x, y, copied), items(item("n", x), item("n~1", copied), item("n~2", y)), api.OK},
		{"the copy's name ahead", list(copied, x, y), items(item("n", x), item("n~1", copied), item("n~2", y)), api.OK},
		{"the copy's name between", list(y, copied, x), items(item("n", y), item("n~1", copied), item("n~2", x)), api.OK},
		{"a copy of the copy's name", list(x, y, copied, dir(at(4, 0), root(), "n~1")),
			items(item("n", x), item("n~1", copied), item("n~1~1", dir(at(4, 0), root(), "n~1")), item("n~2", y)), api.OK},
		{"the copy's name in another directory", list(x, y, dir(c, root(), "d"), file(at(4, 0), c, "n~1")),
			items(item("d", dir(c, root(), "d")), item("d/n~1", file(at(4, 0), c, "n~1")), item("n", x), item("n~1", y)), api.OK},
		{"a long name", list(l, m), items(item(long, l), item("abcdefghijklmnopqrstuv~1", m)), api.OK},
		{"the copy's name alone", list(copied), items(item("n~1", copied)), api.OK},
	})
}

// wrongNames is texts that are no names.
func wrongNames() []string {
	return []string{"", ".", "..", "/", "a/b", "a/", "/a", " ", " a", "a ", "a\x1f", "a\x7f", "a\n", "\x00", "ü", "\xff", "abcdefghijklmnopqrstuvwxy", strings.Repeat("a", 1<<16)}
}

func TestNamesThatAreNone(t *testing.T) {
	a, b, c := at(1, 0), at(2, 0), at(3, 0)
	d, e, x := dir(a, root(), "d"), dir(b, a, "e"), file(at(9, 9), root(), "x")
	for _, wrong := range wrongNames() {
		for _, bad := range list(file(c, root(), wrong), dir(c, root(), wrong)) {
			below := func(parent api.Stamp) api.Node {
				bad.Parent = parent
				return bad
			}
			fine := items(item("d", d), item("d/e", e), item("x", x))
			checkExamples(t, []example{
				{"alone", list(below(root())), nil, api.ErrName},
				{"at the root", list(d, below(root()), e, x), nil, api.ErrName},
				{"at the root, twice", list(d, e, x, below(root()), below(root())), nil, api.ErrName},
				{"in a directory", list(d, e, x, below(a)), nil, api.ErrName},
				{"in a directory, ahead of it", list(below(a), x, e, d), nil, api.ErrName},
				{"two levels down", list(d, e, x, below(b)), nil, api.ErrName},
				{"in the trash", list(d, e, x, below(trash())), fine, api.OK},
				{"below a directory in the trash", list(d, e, x, dir(at(4, 0), trash(), "t"), below(at(4, 0))), fine, api.OK},
				{"as a directory in the trash, and below it", list(d, e, x, below(trash()), file(at(4, 0), c, wrong)), fine, api.OK},
				{"below a file", list(d, e, x, below(x.ID)), fine, api.OK},
				{"below no node", list(d, e, x, below(none())), fine, api.OK},
				{"its own parent", list(d, e, x, below(c)), fine, api.OK},
			})
		}
	}
}

// line is so many directories, each below the one ahead of it, and the path of the last one.
func line(size int) ([]api.Node, string) {
	var nodes []api.Node
	path, parent := "", root()
	for i := range size {
		n := dir(at(i+1, 3), parent, fmt.Sprint("n", i))
		nodes, path, parent = append(nodes, n), path+"/"+n.Name, n.ID
	}
	return nodes, strings.TrimPrefix(path, "/")
}

func TestNamesOfAPath(t *testing.T) {
	for size := 1; size <= 40; size++ {
		nodes, path := line(size)
		got, err := view.View(nodes...)
		checkView(t, nodes...)
		if size > 16 {
			if len(got) != 0 || err != api.ErrBig {
				t.Errorf("View of %d levels = %v, %v", size, got, err)
			}
			continue
		}
		if len(got) != size || err != api.OK || got[size-1] != item(path, nodes[size-1]) {
			t.Errorf("View of %d levels = %v, %v", size, got, err)
		}
	}
}

func TestSixteenNamesAndSeventeen(t *testing.T) {
	fifteen, path := line(15)
	last, other, x := at(15, 3), at(80, 0), at(81, 0)
	with := func(nodes ...api.Node) []api.Node { return append(slices.Clone(fifteen), nodes...) }
	var above []api.Item
	for i, n := range fifteen {
		_, path := line(i + 1)
		above = append(above, item(path, n))
	}
	d, f := dir(other, last, "d"), file(x, last, "f")
	checkExamples(t, []example{
		{"15", fifteen, above, api.OK},
		{"a directory and a file of 16", with(f, d), append(slices.Clone(above), item(path+"/d", d), item(path+"/f", f)), api.OK},
		{"a file of 17", with(d, file(x, other, "f")), nil, api.ErrBig},
		{"a directory of 17", with(d, dir(x, other, "f")), nil, api.ErrBig},
		{"below a file of 16", with(f, file(other, x, "f")), append(slices.Clone(above), item(path+"/f", f)), api.OK},
		{"17 in the trash", with(dir(other, trash(), "d"), file(x, other, "f")), above, api.OK},
		{"no name of 17", with(d, file(x, other, "a/b")), nil, api.ErrName},
	})
	inTrash := slices.Clone(with(d, f, file(at(82, 0), other, "g")))
	inTrash[0].Parent = trash()
	checkExamples(t, []example{{"all of it in the trash", inTrash, nil, api.OK}})
}

func TestANodeTwiceInTheList(t *testing.T) {
	a, b, c := at(1, 0), at(2, 0), at(3, 0)
	x, d, e := file(a, root(), "x"), dir(b, root(), "d"), dir(c, b, "e")
	fine := items(item("d", d), item("d/e", e), item("x", x))
	checkExamples(t, []example{
		{"with one parent and one name", list(x, x), nil, api.ErrBig},
		{"with one parent and two names", list(x, file(a, root(), "y")), nil, api.ErrBig},
		{"with one parent, apart", list(x, d, e, x), nil, api.ErrBig},
		{"with one parent, as a directory and a file", list(x, dir(a, root(), "x")), nil, api.ErrBig},
		{"with one parent, a directory", list(d, d), nil, api.ErrBig},
		{"with one parent, in a directory", list(d, e, e), nil, api.ErrBig},
		{"with two parents, the root and a directory", list(x, d, file(a, b, "x")), nil, api.ErrBig},
		{"with two parents, a directory and the root", list(file(a, b, "x"), d, x), nil, api.ErrBig},
		{"with two parents, one below the other", list(d, e, file(a, b, "x"), file(a, c, "y")), nil, api.ErrBig},
		{"with two parents, one beside the other", list(d, dir(c, root(), "e"), file(a, b, "x"), file(a, c, "x")), nil, api.ErrBig},
		{"with two parents, itself one of them", list(d, dir(b, b, "d")), nil, api.ErrBig},
		{"with two parents, its child one of them", list(d, e, dir(b, c, "d")), nil, api.ErrBig},
		{"also in the trash", list(d, e, x, dir(a, trash(), "x"), dir(b, trash(), "d")), fine, api.OK},
		{"in the trash first", list(file(a, trash(), "x"), dir(c, trash(), "e"), d, e, x), fine, api.OK},
		{"also below no node", list(d, file(a, none(), "y"), e, x, file(a, none(), "y")), fine, api.OK},
		{"also below a file", list(d, e, x, dir(b, a, "d")), fine, api.OK},
		{"a file also its own parent", list(d, e, x, file(a, a, "x")), fine, api.OK},
		{"twice, and never come to", list(d, e, x, file(at(4, 0), trash(), "y"), file(at(4, 0), trash(), "y"), file(at(5, 0), none(), "z"), file(at(5, 0), none(), "z")), fine, api.OK},
		{"a directory where it is come to, a file in the trash", list(file(b, trash(), "f"), d, e, x), fine, api.OK},
		{"a file where it is come to, a directory in the trash", list(dir(a, trash(), "f"), d, e, x, file(at(4, 0), a, "y")), fine, api.OK},
	})
}

// A node with such a stamp is one as any other; what has the root or the trash as its parent is then below it too.
func TestNodesWithTheStampOfTheRootOrTheTrash(t *testing.T) {
	a, b := at(1, 0), at(2, 0)
	d, x := dir(a, root(), "d"), file(b, trash(), "x")
	r, i := file(root(), root(), "r"), dir(trash(), root(), "t")
	checkExamples(t, []example{
		{"the root, a file at the root", list(r, d), items(item("d", d), item("r", r)), api.OK},
		{"the root, a directory at the root", list(dir(root(), root(), "r"), d), nil, api.ErrBig},
		{"the root, a directory alone", list(dir(root(), root(), "r")), nil, api.ErrBig},
		{"the root, a file in a directory", list(d, file(root(), a, "r")), items(item("d", d), item("d/r", file(root(), a, "r"))), api.OK},
		{"the root, a directory in a directory", list(d, dir(root(), a, "r")), nil, api.ErrBig},
		{"the root, in the trash", list(d, dir(root(), trash(), "r")), items(item("d", d)), api.OK},
		{"the root, below no node", list(d, dir(root(), none(), "a/b")), items(item("d", d)), api.OK},
		{"the trash, a file", list(file(trash(), root(), "t"), x, d), items(item("d", d), item("t", file(trash(), root(), "t"))), api.OK},
		{"the trash, a directory", list(i, x, d), items(item("d", d), item("t", i), item("t/x", x)), api.OK},
		{"the trash, a directory in a directory", list(dir(trash(), a, "t"), x, d), items(item("d", d), item("d/t", dir(trash(), a, "t")), item("d/t/x", x)), api.OK},
		{"the trash, with no name in it", list(i, file(b, trash(), "a/b"), d), nil, api.ErrName},
		{"the trash in itself", list(dir(trash(), trash(), "t"), x, d), items(item("d", d)), api.OK},
		{"the trash in the root and in itself", list(i, dir(trash(), trash(), "t")), nil, api.ErrBig},
		{"the trash in a directory that is in it", list(i, dir(b, trash(), "b"), dir(trash(), b, "t")), nil, api.ErrBig},
		{"the root and the trash, each other's", list(dir(root(), trash(), "r"), dir(trash(), root(), "t")), nil, api.ErrBig},
		{"the root and the trash at the root", list(r, i, x), items(item("r", r), item("t", i), item("t/x", x)), api.OK},
	})
}

// Of two errors the one that the procedure comes to first is answered: all names of a directory, all its items, and then each directory of it with all that is below it.
func TestWhichErrorOccursFirst(t *testing.T) {
	p, q, s, x := at(1, 0), at(2, 0), at(3, 0), at(4, 0)
	one, two := dir(p, root(), "p"), dir(q, root(), "q")
	f := file(x, root(), "x")
	wrong, again := func(parent api.Stamp) api.Node { return file(at(9, 0), parent, "a/b") }, func(parent api.Stamp) api.Node { return file(x, parent, "y") }
	sub := func(parent api.Stamp) api.Node { return dir(s, parent, "s") }
	checkExamples(t, []example{
		{"an item too many in the first directory, a name in the second one", list(f, one, two, again(p), wrong(q)), nil, api.ErrBig},
		{"a name in the first directory, an item too many in the second one", list(f, one, two, wrong(p), again(q)), nil, api.ErrName},
		{"the second directory ahead of the first one, which has a name", list(f, two, one, wrong(p), again(q)), nil, api.ErrBig},
		{"the second directory, which has a name, ahead of the first one", list(f, two, one, again(p), wrong(q)), nil, api.ErrName},
		{"an item too many below the first directory, a name in the second one", list(f, one, two, sub(p), again(s), wrong(q)), nil, api.ErrBig},
		{"a name below the first directory, an item too many in the second one", list(f, one, two, sub(p), wrong(s), again(q)), nil, api.ErrName},
		{"an item too many in the first directory, a name below it", list(f, one, sub(p), again(p), wrong(s)), nil, api.ErrBig},
		{"a name in the first directory, an item too many below it", list(f, one, sub(p), wrong(p), again(s)), nil, api.ErrName},
		{"an item too many at the root, a name in a directory ahead of it", list(one, wrong(p), f, f), nil, api.ErrBig},
		{"a name at the root, an item too many in a directory ahead of it", list(f, one, again(p), wrong(root())), nil, api.ErrName},
		{"an item too many and then a name in one directory", list(f, one, again(p), wrong(p)), nil, api.ErrName},
		{"an item too many and then a name at the root", list(f, f, wrong(root())), nil, api.ErrName},
		{"a name, and a directory that is below itself", list(one, wrong(p), two, sub(q), dir(q, s, "q")), nil, api.ErrName},
		{"a directory that is below itself, and a name", list(two, sub(q), dir(q, s, "q"), one, wrong(p)), nil, api.ErrBig},
		{"a directory that is below itself, a name in it", list(two, dir(q, q, "q"), wrong(q)), nil, api.ErrName},
	})
}

// Levels too many are an error where they are come to, neither ahead nor behind.
func TestWhichErrorOccursFirstAmongLevels(t *testing.T) {
	deep, _ := line(17)
	d, wrong := dir(at(80, 0), root(), "d"), file(at(81, 0), at(80, 0), "a/b")
	seventeenth := deep[16].Parent
	checkExamples(t, []example{
		{"levels, then a name", append(slices.Clone(deep), d, wrong), nil, api.ErrBig},
		{"a name, then levels", append(list(d, wrong), deep...), nil, api.ErrName},
		{"a name beside the seventeenth", append(slices.Clone(deep), file(at(81, 0), seventeenth, "")), nil, api.ErrName},
		{"a name below the seventeenth", append(slices.Clone(deep), file(at(81, 0), at(17, 3), "")), nil, api.ErrBig},
		{"a name beside the sixteenth", append(slices.Clone(deep), file(at(81, 0), deep[15].Parent, "")), nil, api.ErrName},
	})
}

// many is so many files of a directory.
func many(size int, parent api.Stamp, name func(int) string) []api.Node {
	var nodes []api.Node
	for i := range size {
		nodes = append(nodes, file(at(1000+i, 2), parent, name(i)))
	}
	return nodes
}

func TestManyNodesInADirectory(t *testing.T) {
	d := dir(at(1, 0), root(), "d")
	same := func(int) string { return "n" }
	own := func(i int) string { return fmt.Sprintf("n%04d", i) }
	for _, name := range []func(int) string{same, own} {
		got, err := view.View(append(many(1000, d.ID, name), d)...)
		if len(got) != 1001 || err != api.OK {
			t.Errorf("View of 1000 nodes in a directory has %d items, %v", len(got), err)
		}
		checkView(t, append(many(1000, root(), name), many(1000, trash(), same)...)...)
		for _, c := range []example{
			{"1001 at the root", many(1001, root(), name), nil, api.ErrBig},
			{"1001 in a directory", append(many(1001, d.ID, name), d), nil, api.ErrBig},
			{"1001 and no name", append(many(1001, root(), name), file(at(1, 0), root(), "")), nil, api.ErrBig},
			{"1000 and no name", append(many(999, root(), name), file(at(1, 0), root(), "")), nil, api.ErrName},
			{"1001 in a directory, and no name at the root", append(many(1001, d.ID, name), d, file(at(2, 0), root(), "")), nil, api.ErrName},
			{"1001 in a directory, and no name in a later one", append(many(1001, d.ID, name), d, dir(at(2, 0), root(), "e"), file(at(3, 0), at(2, 0), "")), nil, api.ErrBig},
			{"1001 in a directory, and no name in an earlier one", append(many(1001, d.ID, name), dir(at(2, 0), root(), "e"), d, file(at(3, 0), at(2, 0), "")), nil, api.ErrName},
		} {
			if got, err := view.View(c.nodes...); len(got) != 0 || err != c.err {
				t.Errorf("%s: View has %d items, %v, want %v", c.what, len(got), err, c.err)
			}
		}
	}
	if got, err := view.View(many(1001, trash(), same)...); len(got) != 0 || err != api.OK {
		t.Errorf("View of 1001 nodes in the trash = %v, %v", got, err)
	}
}

// Not name by name: what is below a directory stands behind those that begin alike and go on with a byte that sorts before '/'.
func TestItemsAreSortedByteByByte(t *testing.T) {
	d := dir(at(1, 0), root(), "d")
	x, y := dir(at(2, 0), d.ID, "x"), file(at(3, 0), at(2, 0), "y")
	order := []string{"d", "d !", "d!", "d#x", "d(1)", "d+", "d,", "d-", "d-x", "d.", "d.txt", "d/x", "d/x/y", "d0", "d9", "dA", "d~", "d~1"}
	nodes, want := list(), items()
	for i, path := range order {
		switch path {
		case "d":
			nodes, want = append(nodes, d), append(want, item(path, d))
		case "d/x":
			nodes, want = append(nodes, x), append(want, item(path, x))
		case "d/x/y":
			nodes, want = append(nodes, y), append(want, item(path, y))
		default:
			n := file(at(100-i, 0), root(), path)
			nodes, want = append(nodes, n), append(want, item(path, n))
		}
	}
	random := rand.New(rand.NewSource(11))
	for range 200 {
		checkExamples(t, []example{{"shuffled", nodes, want, api.OK}})
		nodes = slices.Clone(nodes)
		random.Shuffle(len(nodes), func(i, j int) { nodes[i], nodes[j] = nodes[j], nodes[i] })
	}
	short := func(name string, i int) api.Node { return file(at(i, 5), root(), name) }
	checkExamples(t, []example{
		{"longer ones", list(short("ab", 1), short("a", 2), short("aa", 3)), items(item("a", short("a", 2)), item("aa", short("aa", 3)), item("ab", short("ab", 1))), api.OK},
		{"numbers", list(short("10", 1), short("9", 2), short("1", 3)), items(item("1", short("1", 3)), item("10", short("10", 1)), item("9", short("9", 2))), api.OK},
		{"upper and lower case", list(short("b", 1), short("B", 2), short("a", 3), short("A", 4)), items(item("A", short("A", 4)), item("B", short("B", 2)), item("a", short("a", 3)), item("b", short("b", 1))), api.OK},
	})
}

func TestItemsAreAsTheirNodes(t *testing.T) {
	d := api.Node{ID: at(1, 2), Dir: true, Parent: root(), Name: "d", Manifest: "of a directory"}
	f := api.Node{ID: at(3, 4), Parent: at(1, 2), Name: "f", Manifest: "of a file"}
	e := api.Node{ID: at(5, 6), Parent: at(1, 2), Name: "e"}
	got, err := view.View(f, e, d)
	want := []api.Item{
		{Path: "d", ID: at(1, 2), Dir: true, Ghost: false, Manifest: "of a directory"},
		{Path: "d/e", ID: at(5, 6), Dir: false, Ghost: false, Manifest: ""},
		{Path: "d/f", ID: at(3, 4), Dir: false, Ghost: false, Manifest: "of a file"},
	}
	if !slices.Equal(got, want) || err != api.OK {
		t.Errorf("View = %v, %v, want %v", got, err, want)
	}
}

// permutations goes through all orders of nodes.
func permutations(nodes []api.Node, do func([]api.Node)) {
	var put func(head, rest []api.Node)
	put = func(head, rest []api.Node) {
		if len(rest) == 0 {
			do(head)
		}
		for i, n := range rest {
			put(append(slices.Clone(head), n), slices.Delete(slices.Clone(rest), i, i+1))
		}
	}
	put(nil, nodes)
}

// Only among nodes of one name in one directory does the order tell which one is a copy of which number.
func TestOrderOfNodes(t *testing.T) {
	d, e := dir(at(1, 0), root(), "n"), dir(at(2, 0), root(), "n")
	nodes := list(d, e, file(at(3, 0), d.ID, "m"), file(at(4, 0), d.ID, "m"), file(at(5, 0), d.ID, "l"), file(at(6, 0), e.ID, "m"))
	seen := map[string]int{}
	permutations(nodes, func(order []api.Node) {
		got, err := view.View(order...)
		if err != api.OK {
			t.Fatalf("View(%v) = %v", order, err)
		}
		first := func(a, b int) bool {
			return slices.Index(order, nodes[a]) < slices.Index(order, nodes[b])
		}
		path := func(i int, want string) {
			t.Helper()
			if x, _ := view.Of(got, nodes[i].ID); x.Path != want {
				t.Fatalf("the path of %v in View(%v) is %q, want %q", nodes[i], order, x.Path, want)
			}
		}
		p, q, m, n := "n", "n~1", "m", "m~1"
		if !first(0, 1) {
			p, q = q, p
		}
		if !first(2, 3) {
			m, n = n, m
		}
		path(0, p)
		path(1, q)
		path(2, p+"/"+m)
		path(3, p+"/"+n)
		path(4, p+"/l")
		path(5, q+"/m")
		seen[fmt.Sprint(got)]++
	})
	if len(seen) != 4 {
		t.Errorf("the orders give %d views, want 4", len(seen))
	}
	other := list(d, dir(at(2, 0), root(), "o"), file(at(3, 0), d.ID, "m"), file(at(4, 0), d.ID, "k"), dir(at(5, 0), at(2, 0), "m"), file(at(6, 0), at(5, 0), "m"))
	want, _ := plainView(other)
	permutations(other, func(order []api.Node) {
		if got, err := view.View(order...); err != api.OK || !slices.Equal(got, want) {
			t.Fatalf("View(%v) = %v, %v, want %v", order, got, err, want)
		}
	})
}

// someNodes is nodes of some stamps, below each of them, with each of the names.
func someNodes(ids, parents []api.Stamp, called ...string) []api.Node {
	var some []api.Node
	for _, id := range ids {
		for _, parent := range parents {
			for _, name := range called {
				some = append(some, dir(id, parent, name), file(id, parent, name))
			}
		}
	}
	return some
}

// All lists of up to two nodes, the root and the trash as nodes among them, and of three nodes of fewer stamps and names.
func TestAllShortLists(t *testing.T) {
	a, b, c := at(1, 0), at(1, 1), at(2, 0)
	some := someNodes([]api.Stamp{root(), trash(), a, b}, []api.Stamp{root(), trash(), a, b}, "n", "n~1", "")
	checkView(t)
	for _, x := range some {
		checkView(t, x)
		for _, y := range some {
			checkView(t, x, y)
		}
	}
	fewer := someNodes([]api.Stamp{a, b, c}, []api.Stamp{root(), a, b}, "n", ".")
	for _, x := range fewer {
		for _, y := range fewer {
			for _, z := range fewer {
				checkView(t, x, y, z)
			}
		}
	}
}

// Longer lists in no order, mostly with stamps of their own, so that many of them have a view.
func TestRandomLists(t *testing.T) {
	random := rand.New(rand.NewSource(1))
	called := []string{"n", "n", "m", "n~1", "n-", "n.txt", "n!", "o"}
	errs := map[api.Errno]int{}
	for range 20000 {
		size := 1 + random.Intn(14)
		pick := func() api.Stamp { return at(random.Intn(size)/3, random.Intn(3)) }
		var nodes []api.Node
		for i := range size {
			n := api.Node{ID: at((i+3)/3, i%3), Dir: random.Intn(4) > 0, Parent: pick(), Name: called[random.Intn(len(called))], Manifest: fmt.Sprint(i)}
			switch random.Intn(25) {
			case 0:
				n.ID = pick()
			case 1:
				n.Name = wrongNames()[random.Intn(8)]
			case 2, 3, 4, 5, 6, 7, 8, 9:
				n.Parent = root()
			}
			nodes = append(nodes, n)
		}
		random.Shuffle(size, func(i, j int) { nodes[i], nodes[j] = nodes[j], nodes[i] })
		checkView(t, nodes...)
		_, err := view.View(nodes...)
		errs[err]++
	}
	if errs[api.OK] < 2000 || errs[api.ErrName] < 500 || errs[api.ErrBig] < 500 || len(errs) != 3 {
		t.Errorf("the lists' errors are %v", errs)
	}
}

// P11.2

func someItems() []api.Item {
	return []api.Item{
		{Path: "b", ID: at(2, 0), Dir: true, Manifest: "1"},
		{Path: "a", ID: at(1, 0), Manifest: "2"},
		{Path: "b", ID: at(3, 0), Ghost: true, Manifest: "3"},
		{Path: "c", ID: at(1, 0), Dir: true, Ghost: true, Manifest: "4"},
		{Path: "", ID: at(4, 0), Manifest: "5"},
		{Path: "b/c", ID: root(), Manifest: "6"},
		{Path: "", ID: trash(), Manifest: "7"},
		{Path: "a", ID: at(1, 0), Dir: true, Manifest: "8"},
	}
}

func TestAt(t *testing.T) {
	all := someItems()
	for _, c := range []struct {
		path string
		want int
	}{{"b", 0}, {"a", 1}, {"c", 3}, {"", 4}, {"b/c", 5}, {"d", -1}, {"A", -1}, {"b/", -1}, {"/b", -1}, {"b/c/d", -1}, {".", -1}, {"\xff", -1}} {
		want := api.Item{}
		if c.want >= 0 {
			want = all[c.want]
		}
		if got, ok := view.At(all, c.path); got != want || ok != (c.want >= 0) {
			t.Errorf("At %q = %v, %v, want %v", c.path, got, ok, want)
		}
		checkAsks(t, all, c.path, at(9, 9))
		if got, ok := view.At(nil, c.path); got != (api.Item{}) || ok {
			t.Errorf("At %q of no items = %v, %v", c.path, got, ok)
		}
		if got, ok := view.At([]api.Item{}, c.path); got != (api.Item{}) || ok {
			t.Errorf("At %q of an empty list = %v, %v", c.path, got, ok)
		}
	}
	got, _ := view.View(dir(at(1, 0), root(), "a"), file(at(2, 0), at(1, 0), "b"))
	for _, path := range []string{"", "/", ".", "b", "a/", "/a", "a/b/", "a//b", "a/b/c"} {
		if x, ok := view.At(got, path); x != (api.Item{}) || ok {
			t.Errorf("At %q of %v = %v, %v", path, got, x, ok)
		}
	}
}

func TestOf(t *testing.T) {
	all := someItems()
	for _, c := range []struct {
		id   api.Stamp
		want int
	}{{at(2, 0), 0}, {at(1, 0), 1}, {at(3, 0), 2}, {at(4, 0), 4}, {root(), 5}, {trash(), 6}, {at(5, 0), -1}, {at(1, 1), -1}, {at(0, 2), -1}, {at(-1, 0), -1}, {at(math.MaxInt, math.MinInt), -1}} {
		want := api.Item{}
		if c.want >= 0 {
			want = all[c.want]
		}
		if got, ok := view.Of(all, c.id); got != want || ok != (c.want >= 0) {
			t.Errorf("Of %v = %v, %v, want %v", c.id, got, ok, want)
		}
		checkAsks(t, all, "none", c.id)
		if got, ok := view.Of(nil, c.id); got != (api.Item{}) || ok {
			t.Errorf("Of %v of no items = %v, %v", c.id, got, ok)
		}
		if got, ok := view.Of([]api.Item{}, c.id); got != (api.Item{}) || ok {
			t.Errorf("Of %v of an empty list = %v, %v", c.id, got, ok)
		}
	}
	got, _ := view.View(dir(at(1, 0), root(), "a"), file(at(2, 0), at(1, 0), "b"), file(at(3, 0), trash(), "c"))
	for _, id := range []api.Stamp{root(), trash(), at(3, 0), none()} {
		if x, ok := view.Of(got, id); x != (api.Item{}) || ok {
			t.Errorf("Of %v of %v = %v, %v", id, got, x, ok)
		}
	}
}

// All lists of up to four items of few paths and stamps, sorted or not.
func TestAsksOfAllShortLists(t *testing.T) {
	var some []api.Item
	for i, path := range []string{"", "a", "a/b"} {
		some = append(some, api.Item{Path: path, ID: root(), Manifest: fmt.Sprint(i)}, api.Item{Path: path, ID: at(1, 0), Dir: true, Ghost: true})
	}
	var each func(of []api.Item)
	each = func(of []api.Item) {
		for _, path := range []string{"", "a", "a/b", "b"} {
			for _, id := range []api.Stamp{root(), at(1, 0), trash()} {
				checkAsks(t, of, path, id)
			}
		}
		if len(of) == 4 {
			return
		}
		for _, x := range some {
			each(append(slices.Clone(of), x))
		}
	}
	each(nil)
}

// P11.3

// checkTree holds the view of a tree, whose Names are names, against the chains of its nodes.
func checkTree(t *testing.T, nodes []api.Node) api.Errno {
	t.Helper()
	checkView(t, nodes...)
	deepest, below := 0, 0
	for _, n := range nodes {
		if chain := tree.Chain(nodes, n.ID); chain[len(chain)-1] == root() {
			below++
			deepest = max(deepest, len(chain)-1)
		}
	}
	got, err := view.View(nodes...)
	if deepest > 16 {
		if len(got) != 0 || err != api.ErrBig {
			t.Fatalf("View of %d levels = %v, %v", deepest, got, err)
		}
		return err
	}
	if len(got) != below || err != api.OK {
		t.Fatalf("View(%v) = %v, %v, want %d items", nodes, got, err, below)
	}
	paths := map[string]int{}
	for _, n := range nodes {
		chain := tree.Chain(nodes, n.ID)
		x, ok := view.Of(got, n.ID)
		if ok != (chain[len(chain)-1] == root()) {
			t.Fatalf("the item of %v, which stands at %v, is %v", n, chain, x)
		}
		if !ok {
			continue
		}
		paths[x.Path]++
		checkPath(t, got, n, x, len(chain)-1)
	}
	if len(paths) != below {
		t.Fatalf("the %d items of %v have %d paths", below, got, len(paths))
	}
	return err
}

// checkPath holds the path of an item against its level, the path of the item of its node's parent, and the node's name.
func checkPath(t *testing.T, of []api.Item, n api.Node, x api.Item, level int) {
	t.Helper()
	parts := strings.Split(x.Path, "/")
	if len(parts) != level || x != item(x.Path, n) {
		t.Fatalf("the item of %v on level %d is %v", n, level, x)
	}
	last := parts[level-1]
	if n.Parent != root() {
		above, ok := view.Of(of, n.Parent)
		if !ok || !above.Dir || above.Path+"/"+last != x.Path {
			t.Fatalf("%v is an item, and the one of its parent is %v", x, above)
		}
	}
	for number := 0; number <= len(of); number++ {
		called, err := n.Name, api.OK
		if number > 0 {
			called, err = names.Copy(n.Name, number)
		}
		if called == last && err == api.OK {
			return
		}
	}
	t.Fatalf("the item of %v is called %q", n, last)
}

// history is so many operations with rising stamps, of which none need fit the others. Of ten that make something about so many as deep says go below the last directory that was made.
func history(random *rand.Rand, size, deep int) []api.Op {
	called := []string{"n", "n", "n", "m", "n~1", "n.txt", "n-", "n!x", "abcdefghijklmnopqrstuvwx"}
	made, last := []api.Stamp{root()}, root()
	pick := func() api.Stamp { return made[random.Intn(len(made))] }
	var ops []api.Op
	for i := range size {
		x := api.Op{Stamp: at(i/2+1, i%2), Seq: i + 1, Kind: 2 + random.Intn(3), Parent: pick(), Name: called[random.Intn(len(called))]}
		switch {
		case last == root() || random.Intn(10) < 6:
			x.Kind, x.Node, x.Dir = api.Make, x.Stamp, random.Intn(4) > 0
			if random.Intn(10) < deep {
				x.Parent = last
			}
			made = append(made, x.Stamp)
			if x.Dir {
				last = x.Stamp
			}
		case deep > 5 && random.Intn(3) > 0:
			x.Kind, x.Node = api.Edit, pick()
		default:
			x.Node = made[1+random.Intn(len(made)-1)]
		}
		if !x.Dir {
			x.Manifest = fmt.Sprint(i)
		}
		ops = append(ops, x)
	}
	return ops
}

func TestViewsOfTreesThatOperationsMake(t *testing.T) {
	random := rand.New(rand.NewSource(2))
	errs := map[api.Errno]int{}
	for _, size := range []int{1, 3, 8, 20, 60, 150} {
		for _, deep := range []int{0, 5, 9, 10} {
			for range 25 {
				errs[checkTree(t, tree.Fold(history(random, size, deep)...))]++
			}
		}
	}
	if errs[api.OK] < 200 || errs[api.ErrBig] < 5 {
		t.Errorf("the trees' errors are %v", errs)
	}
}

// One operation behind the other: each tree on the way has its view.
func TestViewsBehindEachOperation(t *testing.T) {
	random := rand.New(rand.NewSource(3))
	for _, deep := range []int{0, 6, 9} {
		var nodes []api.Node
		for _, x := range history(random, 120, deep) {
			nodes = tree.Do(nodes, x)
			checkTree(t, nodes)
		}
	}
}

// All trees of up to three nodes that operations make of one name, with the trash and all parents.
func TestViewsOfAllShortHistories(t *testing.T) {
	stamps := []api.Stamp{at(1, 0), at(2, 0), at(3, 0)}
	var each func(nodes []api.Node, left int)
	each = func(nodes []api.Node, left int) {
		checkTree(t, nodes)
		if left == 0 {
			return
		}
		for _, id := range stamps {
			for _, parent := range append([]api.Stamp{root()}, stamps...) {
				each(tree.Do(nodes, api.Op{Kind: api.Make, Node: id, Dir: true, Parent: parent, Name: "n"}), left-1)
				each(tree.Do(nodes, api.Op{Kind: api.Move, Node: id, Parent: parent, Name: "n"}), left-1)
			}
			each(tree.Do(nodes, api.Op{Kind: api.Make, Node: id, Name: "n"}), left-1)
			each(tree.Do(nodes, api.Op{Kind: api.Drop, Node: id}), left-1)
		}
	}
	each(nil, 3)
}

// So many operations that go down to a level, the last one a file, with a file of one name on each of them.
func TestViewsOfTreesUpToSixteenLevels(t *testing.T) {
	for levels := 1; levels <= 20; levels++ {
		var ops []api.Op
		parent := root()
		for level := 1; level <= levels; level++ {
			dirStamp, fileStamp := at(level, 0), at(level, 1)
			ops = append(ops,
				api.Op{Stamp: dirStamp, Kind: api.Make, Node: dirStamp, Dir: true, Parent: parent, Name: "n"},
				api.Op{Stamp: fileStamp, Kind: api.Make, Node: fileStamp, Parent: parent, Name: "n", Manifest: fmt.Sprint(level)})
			parent = dirStamp
		}
		nodes := tree.Fold(ops...)
		want := api.OK
		if levels > 16 {
			want = api.ErrBig
		}
		if err := checkTree(t, nodes); err != want {
			t.Errorf("View of %d levels = %v, want %v", levels, err, want)
		}
		checkTree(t, tree.Do(nodes, api.Op{Kind: api.Drop, Node: at(1, 0)}))
		checkTree(t, tree.Do(nodes, api.Op{Kind: api.Move, Node: at(levels, 0), Name: "n"}))
	}
}

func TestViewOfAFullTree(t *testing.T) {
	var ops []api.Op
	for i := range api.MaxOps {
		stamp, parent := at(i+1, 0), root()
		if i > 0 {
			parent = at((i+1)/2, 0)
		}
		ops = append(ops, api.Op{Stamp: stamp, Kind: api.Make, Node: stamp, Dir: true, Parent: parent, Name: "abcdefghijklmnopqrstuvwx"})
	}
	if err := checkTree(t, tree.Fold(ops...)); err != api.OK {
		t.Errorf("View of %d nodes = %v", len(ops), err)
	}
}

// R1 to R3

// spare is nodes with more memory behind them, which keeps what is written there.
func spare(nodes []api.Node) []api.Node {
	whole := append(slices.Clone(nodes), file(at(70, 7), root(), "spare"), file(at(71, 7), root(), "spare"))
	return whole[:len(nodes)]
}

// family is nodes of all manners that have a view.
func family() []api.Node {
	d, e := at(5, 0), at(2, 0)
	return list(file(at(9, 0), d, "n"), dir(d, root(), "z"), file(at(1, 0), d, "n"), dir(e, root(), "a"), file(at(3, 0), e, "x"), file(at(4, 0), trash(), "t"), file(at(6, 0), root(), "a"))
}

func TestArgumentsStayAsTheyAre(t *testing.T) {
	nodes := spare(family())
	size := len(nodes)
	whole := slices.Clone(nodes[:size+2])
	for i := range size + 1 {
		view.View(nodes[:i]...)
	}
	if !slices.Equal(nodes[:size+2], whole) {
		t.Errorf("the nodes %v became %v", whole, nodes[:size+2])
	}
	all := append(someItems(), api.Item{Path: "spare"})
	kept := slices.Clone(all)
	for _, path := range []string{"", "a", "b", "c", "d", "spare"} {
		view.At(all[:len(all)-1], path)
		view.Of(all[:len(all)-1], at(len(path), 0))
	}
	if !slices.Equal(all, kept) {
		t.Errorf("the items %v became %v", kept, all)
	}
}

// spoil writes all over a list, beyond its length also.
func spoil(of []api.Item) {
	of = of[:cap(of)]
	for i := range of {
		of[i] = api.Item{Path: "spoilt", ID: at(-7, -7), Dir: true, Ghost: true, Manifest: "spoilt"}
	}
}

func TestAnswersAreNewMemory(t *testing.T) {
	nodes := spare(family())
	size := len(nodes)
	whole := slices.Clone(nodes[:size+2])
	want, _ := plainView(nodes)
	first, err := view.View(nodes...)
	if err != api.OK {
		t.Fatalf("View(%v) = %v", nodes, err)
	}
	again, _ := view.View(nodes...)
	spoil(first)
	if !slices.Equal(nodes[:size+2], whole) {
		t.Errorf("the nodes %v became %v with the answer", whole, nodes[:size+2])
	}
	later, _ := view.View(nodes...)
	if !slices.Equal(again, want) || !slices.Equal(later, want) {
		t.Errorf("behind a spoilt answer View = %v and %v, want %v", again, later, want)
	}
	for i := range nodes {
		nodes[i] = dir(at(-7, -7), at(-7, -7), "spoilt")
	}
	if !slices.Equal(again, want) {
		t.Errorf("an answer became %v with its nodes", again)
	}
}

// sharesText tells whether texts are the same memory.
func sharesText(a, b string) bool {
	return len(a) > 0 && len(b) > 0 && unsafe.StringData(a) == unsafe.StringData(b)
}

func TestTextsOfAnswersAreNewMemory(t *testing.T) {
	var nodes []api.Node
	var texts []string
	for _, n := range family() {
		n.Name, n.Manifest = strings.Clone(n.Name), strings.Clone(n.Manifest)
		nodes, texts = append(nodes, n), append(texts, n.Name, n.Manifest)
	}
	check := func(what string, got ...api.Item) {
		t.Helper()
		for _, x := range got {
			for _, text := range texts {
				if sharesText(x.Path, text) || sharesText(x.Manifest, text) {
					t.Errorf("%s shares %q with an argument", what, text)
				}
			}
		}
	}
	all, _ := view.View(nodes...)
	check("View", all...)
	for _, x := range all {
		texts = append(texts, x.Path, x.Manifest)
	}
	for _, x := range all {
		atPath, _ := view.At(all, x.Path)
		ofNode, _ := view.Of(all, x.ID)
		check("At", atPath)
		check("Of", ofNode)
	}
}

func TestAnswersHangOnTheArgumentsAlone(t *testing.T) {
	random := rand.New(rand.NewSource(4))
	var lists [][]api.Node
	for range 40 {
		lists = append(lists, tree.Fold(history(random, 30, 3)...))
	}
	var wait sync.WaitGroup
	for range 8 {
		wait.Go(func() {
			for _, nodes := range lists {
				want, wantErr := plainView(nodes)
				for range 10 {
					if got, err := view.View(nodes...); err != wantErr || !slices.Equal(got, want) {
						t.Errorf("View(%v) = %v, %v, want %v, %v", nodes, got, err, want, wantErr)
					}
				}
			}
		})
	}
	wait.Wait()
}

// Ways

func TestNodesAreVariadic(t *testing.T) {
	var show func(...api.Node) ([]api.Item, api.Errno) = view.View
	d, x, y := dir(at(1, 0), root(), "d"), file(at(2, 0), root(), "x"), file(at(3, 0), at(1, 0), "y")
	want := items(item("d", d), item("d/y", y), item("x", x))
	if got, err := show(x, y, d); err != api.OK || !slices.Equal(got, want) {
		t.Errorf("View of three nodes = %v, %v, want %v", got, err, want)
	}
}

func TestDirectoriesAreVisitedByAClosureThatCallsItself(t *testing.T) {
	source, err := parser.ParseFile(token.NewFileSet(), "view.go", nil, parser.SkipObjectResolution)
	if err != nil {
		t.Fatal(err)
	}
	calls := 0
	ast.Inspect(source, func(n ast.Node) bool {
		if set, ok := n.(*ast.AssignStmt); ok && len(set.Lhs) == 1 && len(set.Rhs) == 1 {
			name, isName := set.Lhs[0].(*ast.Ident)
			closure, isClosure := set.Rhs[0].(*ast.FuncLit)
			if isName && isClosure {
				calls += callsOf(closure, name.Name)
			}
		}
		return true
	})
	if calls == 0 {
		t.Error("view.go has no closure that calls itself")
	}
}

// callsOf is how many calls of a name a closure has.
func callsOf(closure *ast.FuncLit, name string) int {
	calls := 0
	ast.Inspect(closure.Body, func(n ast.Node) bool {
		if call, ok := n.(*ast.CallExpr); ok {
			if called, ok := call.Fun.(*ast.Ident); ok && called.Name == name {
				calls++
			}
		}
		return true
	})
	return calls
}

// FuzzView takes each four bytes as a node: its ID, its parent, its kind and its name.
func FuzzView(f *testing.F) {
	f.Add([]byte{2, 0, 1, 0, 3, 2, 0, 1, 4, 2, 0, 1})
	f.Add([]byte{2, 3, 1, 0, 3, 2, 1, 0, 0, 0, 1, 9, 1, 0, 1, 2})
	f.Add([]byte{2, 0, 1, 0, 2, 0, 0, 1, 3, 1, 0, 200, 4, 2, 0, 200})
	called := append([]string{"n", "m", "n~1", "n-", "n.txt", "n~1.txt", "m!"}, wrongNames()[:8]...)
	f.Fuzz(func(t *testing.T, data []byte) {
		var nodes []api.Node
		for part := range slices.Chunk(data, 4) {
			if len(part) == 4 && len(nodes) < 60 {
				nodes = append(nodes, api.Node{ID: at(int(part[0]>>1), int(part[0]&1)), Parent: at(int(part[1]>>1), int(part[1]&1)), Dir: part[2]&1 > 0, Name: called[int(part[3])%len(called)], Manifest: fmt.Sprint(part)})
			}
		}
		checkView(t, nodes...)
	})
}
