package tree_test

import (
	"cmp"
	"math"
	"math/rand"
	"slices"
	"strings"
	"sync"
	"testing"
	"unsafe"

	"arbour/api"
	"arbour/tree"
)

func at(count, who int) api.Stamp { return api.Stamp{Count: count, Who: who} }

func root() api.Stamp { return at(0, 0) }

func trash() api.Stamp { return at(0, 1) }

func makeDir(id, parent api.Stamp, name string) api.Op {
	return api.Op{Stamp: id, Seq: 1, Kind: api.Make, Node: id, Dir: true, Parent: parent, Name: name}
}

func makeFile(id, parent api.Stamp, name, manifest string) api.Op {
	return api.Op{Stamp: id, Seq: 1, Kind: api.Make, Node: id, Parent: parent, Name: name, Manifest: manifest}
}

func move(id, parent api.Stamp, name string) api.Op {
	return api.Op{Stamp: at(99, 9), Seq: 1, Kind: api.Move, Node: id, Parent: parent, Name: name}
}

func edit(id api.Stamp, manifest string) api.Op {
	return api.Op{Stamp: at(99, 9), Seq: 1, Kind: api.Edit, Node: id, Manifest: manifest}
}

func drop(id api.Stamp) api.Op {
	return api.Op{Stamp: at(99, 9), Seq: 1, Kind: api.Drop, Node: id}
}

func dir(id, parent api.Stamp, name string) api.Node {
	return api.Node{ID: id, Dir: true, Parent: parent, Name: name}
}

func file(id, parent api.Stamp, name, manifest string) api.Node {
	return api.Node{ID: id, Parent: parent, Name: name, Manifest: manifest}
}

// The nodes of family: a directory of the root, one below it, one below that, the files of these, a file of the root, and a directory in the trash with a file.
var (
	top    = at(1, 0)
	middle = at(3, 0)
	bottom = at(3, 2)
	leaf   = at(4, 0)
	page   = at(5, 1)
	note   = at(5, 3)
	gone   = at(7, 0)
	lost   = at(8, 4)
	none   = at(6, 6)
)

func family() []api.Node {
	return []api.Node{
		dir(top, root(), "top"),
		dir(middle, top, "middle"),
		dir(bottom, middle, "bottom"),
		file(leaf, bottom, "leaf", "of leaf"),
		file(page, middle, "page", "of page"),
		file(note, root(), "note", ""),
		dir(gone, trash(), "gone"),
		file(lost, gone, "lost", "of lost"),
	}
}

// with is nodes of which one is changed.
func with(nodes []api.Node, i int, change func(*api.Node)) []api.Node {
	nodes = slices.Clone(nodes)
	change(&nodes[i])
	return nodes
}

// The plain functions are the chapter's sentences, one behind the other.

func plainFirst(nodes []api.Node, id api.Stamp) int {
	return slices.IndexFunc(nodes, func(n api.Node) bool { return n.ID == id })
}

func plainGreater(a, b api.Stamp) bool {
	return cmp.Or(cmp.Compare(a.Count, b.Count), cmp.Compare(a.Who, b.Who)) > 0
}

func plainIsDir(nodes []api.Node, id api.Stamp) bool {
	i := plainFirst(nodes, id)
	return i >= 0 && nodes[i].Dir
}

// plainBelow is all that is below a stamp: what has it as the parent, what has one of these, and so on, till nothing is added.
func plainBelow(nodes []api.Node, id api.Stamp) map[api.Stamp]bool {
	below := map[api.Stamp]bool{}
	for size := -1; size < len(below); {
		size = len(below)
		for i, n := range nodes {
			if i == plainFirst(nodes, n.ID) && (n.Parent == id || below[n.Parent]) {
				below[n.ID] = true
			}
		}
	}
	return below
}

func plainDo(nodes []api.Node, x api.Op) []api.Node {
	after := slices.Clone(nodes)
	i := plainFirst(nodes, x.Node)
	mayHold := x.Parent == api.Stamp{} || plainIsDir(nodes, x.Parent)
	switch {
	case x.Kind == 1 && i < 0:
		n := api.Node{ID: x.Node, Dir: x.Dir, Parent: api.Stamp{Count: 0, Who: 1}, Name: x.Name, Manifest: x.Manifest}
		if mayHold {
			n.Parent = x.Parent
		}
		place := slices.IndexFunc(nodes, func(m api.Node) bool { return plainGreater(m.ID, x.Node) })
		if place < 0 {
			place = len(nodes)
		}
		return slices.Insert(after, place, n)
	case x.Kind == 2 && i >= 0 && mayHold && x.Parent != x.Node && !plainBelow(nodes, x.Node)[x.Parent]:
		after[i].Parent, after[i].Name = x.Parent, x.Name
	case x.Kind == 3 && i >= 0 && !nodes[i].Dir:
		after[i].Manifest = x.Manifest
	case x.Kind == 4 && i >= 0:
		after[i].Parent = api.Stamp{Count: 0, Who: 1}
	}
	return after
}

func plainFold(list []api.Op) []api.Node {
	var nodes []api.Node
	for _, x := range list {
		nodes = plainDo(nodes, x)
	}
	return nodes
}

func plainChain(nodes []api.Node, id api.Stamp) []api.Stamp {
	var chain []api.Stamp
	for !slices.Contains(chain, id) {
		i := plainFirst(nodes, id)
		if i < 0 && len(chain) == 0 {
			return nil
		}
		chain = append(chain, id)
		if i < 0 {
			return chain
		}
		id = nodes[i].Parent
	}
	return chain
}

func plainChildren(nodes []api.Node, parent api.Stamp) []api.Node {
	return slices.DeleteFunc(slices.Clone(nodes), func(n api.Node) bool { return n.Parent != parent })
}

// checkDo holds Do against the plain one, and that the nodes stay as they are.
func checkDo(t *testing.T, nodes []api.Node, x api.Op) {
	t.Helper()
	kept := slices.Clone(nodes)
	if got, want := tree.Do(nodes, x), plainDo(kept, x); !slices.Equal(got, want) {
		t.Fatalf("Do(%v, %v) = %v, want %v", kept, x, got, want)
	}
	if !slices.Equal(nodes, kept) {
		t.Fatalf("the nodes %v became %v by %v", kept, nodes, x)
	}
}

// checkAsks holds Find, Chain and Children of a stamp against the plain ones.
func checkAsks(t *testing.T, nodes []api.Node, id api.Stamp) {
	t.Helper()
	kept := slices.Clone(nodes)
	var want api.Node
	i := plainFirst(nodes, id)
	if i >= 0 {
		want = nodes[i]
	}
	if got, ok := tree.Find(nodes, id); got != want || ok != (i >= 0) {
		t.Fatalf("Find(%v, %v) = %v, %v, want %v", kept, id, got, ok, want)
	}
	if got, want := tree.Chain(nodes, id), plainChain(nodes, id); !slices.Equal(got, want) {
		t.Fatalf("Chain(%v, %v) = %v, want %v", kept, id, got, want)
	}
	if got, want := tree.Children(nodes, id), plainChildren(nodes, id); !slices.Equal(got, want) {
		t.Fatalf("Children(%v, %v) = %v, want %v", kept, id, got, want)
	}
	if !slices.Equal(nodes, kept) {
		t.Fatalf("the nodes %v became %v", kept, nodes)
	}
}

// step is an operation on nodes, and what it makes of them.
type step struct {
	what  string
	nodes []api.Node
	x     api.Op
	want  []api.Node
}

func checkSteps(t *testing.T, steps []step) {
	t.Helper()
	for _, s := range steps {
		if got := tree.Do(s.nodes, s.x); !slices.Equal(got, s.want) {
			t.Errorf("%s: Do(%v, %v) = %v, want %v", s.what, s.nodes, s.x, got, s.want)
		}
		checkDo(t, s.nodes, s.x)
	}
}

// P7.1

func TestMakeTakesItsPlace(t *testing.T) {
	a, b, c, d := dir(at(2, 1), root(), "a"), dir(at(2, 3), root(), "b"), dir(at(4, 0), root(), "c"), dir(at(4, 2), root(), "d")
	checkSteps(t, []step{
		{"the first one", nil, makeDir(a.ID, root(), "a"), []api.Node{a}},
		{"of no nodes", []api.Node{}, makeDir(a.ID, root(), "a"), []api.Node{a}},
		{"at the front, by the device", []api.Node{b, c}, makeDir(a.ID, root(), "a"), []api.Node{a, b, c}},
		{"at the front, by the count", []api.Node{c, d}, makeDir(b.ID, root(), "b"), []api.Node{b, c, d}},
		{"in the middle, by the device", []api.Node{a, c, d}, makeDir(b.ID, root(), "b"), []api.Node{a, b, c, d}},
		{"in the middle, by the count", []api.Node{a, b, d}, makeDir(c.ID, root(), "c"), []api.Node{a, b, c, d}},
		{"at the end, by the device", []api.Node{a, b, c}, makeDir(d.ID, root(), "d"), []api.Node{a, b, c, d}},
		{"at the end, by the count", []api.Node{a, b}, makeDir(c.ID, root(), "c"), []api.Node{a, b, c}},
		{"ahead of the first greater one of nodes in no order", []api.Node{c, a, d}, makeDir(b.ID, root(), "b"), []api.Node{b, c, a, d}},
		{"behind nodes in no order of which none is greater", []api.Node{c, a, b}, makeDir(d.ID, root(), "d"), []api.Node{c, a, b, d}},
	})
}

// What tells the place, the node and the parent is the Node, not the Stamp of the operation.
func TestMakeGoesByItsNode(t *testing.T) {
	x := makeFile(at(2, 0), root(), "n", "m")
	for _, stamp := range []api.Stamp{{}, at(1, 0), top, at(9, 9), at(-1, -1)} {
		x.Stamp = stamp
		for _, seq := range []int{0, 1, -1, math.MaxInt} {
			x.Seq = seq
			if got, want := tree.Do(family(), x), slices.Insert(family(), 1, file(at(2, 0), root(), "n", "m")); !slices.Equal(got, want) {
				t.Errorf("Do of %v = %v, want %v", x, got, want)
			}
		}
	}
}

func TestMakeBelowAParent(t *testing.T) {
	id := at(2, 0)
	for _, c := range []struct {
		what           string
		parent, stands api.Stamp
	}{
		{"the root", root(), root()},
		{"a directory", top, top},
		{"a directory two levels down", middle, middle},
		{"a directory behind it", bottom, bottom},
		{"a directory in the trash", gone, gone},
		{"a file", note, trash()},
		{"a file levels down", leaf, trash()},
		{"the trash", trash(), trash()},
		{"a stamp that is no node", none, trash()},
		{"a stamp that is none", at(-3, 99), trash()},
		{"itself", id, trash()},
		{"the device ahead of the root", at(0, -1), trash()},
	} {
		checkSteps(t, []step{
			{"a directory below " + c.what, family(), makeDir(id, c.parent, "n"), slices.Insert(family(), 1, dir(id, c.stands, "n"))},
			{"a file below " + c.what, family(), makeFile(id, c.parent, "n", "m"), slices.Insert(family(), 1, file(id, c.stands, "n", "m"))},
		})
	}
}

// Names, manifests and stamps are taken as they are: which ones may be, tells another layer.
func TestMakeTakesWhatItIsGiven(t *testing.T) {
	for _, id := range []api.Stamp{at(1, 0), at(-1, 0), at(math.MinInt, math.MinInt), at(math.MaxInt, math.MaxInt), at(0, 2), root(), trash()} {
		for _, text := range []string{"", "a/b", "..", "\x00\xff", strings.Repeat("long", 999)} {
			for _, isDir := range []bool{false, true} {
				x := makeFile(id, root(), text, text)
				x.Dir = isDir
				want := []api.Node{{ID: id, Dir: isDir, Name: text, Manifest: text}}
				if got := tree.Do(nil, x); !slices.Equal(got, want) {
					t.Errorf("Do(nil, %v) = %v, want %v", x, got, want)
				}
			}
		}
	}
}

func TestMakeOfANodeThatIsThere(t *testing.T) {
	for _, n := range family() {
		for _, parent := range []api.Stamp{root(), trash(), top, note, gone, none, n.ID, n.Parent} {
			checkSteps(t, []step{
				{"a directory that is there", family(), makeDir(n.ID, parent, "other"), family()},
				{"a file that is there", family(), makeFile(n.ID, parent, "other", "other"), family()},
			})
		}
	}
}

func TestMove(t *testing.T) {
	moved := func(i int, parent api.Stamp, name string) []api.Node {
		return with(family(), i, func(n *api.Node) { n.Parent, n.Name = parent, name })
	}
	checkSteps(t, []step{
		{"not there", family(), move(none, root(), "x"), family()},
		{"not there, of no nodes", nil, move(none, root(), "x"), nil},
		{"not there, to itself", family(), move(none, none, "x"), family()},
		{"the root", family(), move(root(), top, "x"), family()},
		{"the trash", family(), move(trash(), top, "x"), family()},
		{"the root to itself", family(), move(root(), root(), "x"), family()},
		{"a directory to the root", family(), move(bottom, root(), "x"), moved(2, root(), "x")},
		{"a file to the root", family(), move(leaf, root(), "x"), moved(3, root(), "x")},
		{"within the root", family(), move(top, root(), "x"), moved(0, root(), "x")},
		{"to the directory that it is in", family(), move(page, middle, "x"), moved(4, middle, "x")},
		{"to nowhere new", family(), move(page, middle, "page"), family()},
		{"a directory to one above", family(), move(bottom, top, "x"), moved(2, top, "x")},
		{"a file to a directory", family(), move(note, bottom, "x"), moved(5, bottom, "x")},
		{"out of the trash", family(), move(gone, root(), "x"), moved(6, root(), "x")},
		{"out of the trash to a directory", family(), move(gone, bottom, "x"), moved(6, bottom, "x")},
		{"out of what is in the trash", family(), move(lost, top, "x"), moved(7, top, "x")},
		{"into what is in the trash", family(), move(top, gone, "x"), moved(0, gone, "x")},
		{"to a file", family(), move(bottom, note, "x"), family()},
		{"a file to a file", family(), move(page, note, "x"), family()},
		{"to a file below it", family(), move(top, leaf, "x"), family()},
		{"to the trash", family(), move(bottom, trash(), "x"), family()},
		{"within the trash", family(), move(gone, trash(), "x"), family()},
		{"to a stamp that is no node", family(), move(bottom, none, "x"), family()},
		{"a directory to itself", family(), move(top, top, "x"), family()},
		{"a file to itself", family(), move(leaf, leaf, "x"), family()},
		{"what is in the trash to itself", family(), move(gone, gone, "x"), family()},
		{"one level down", family(), move(top, middle, "x"), family()},
		{"one level down, from the middle", family(), move(middle, bottom, "x"), family()},
		{"two levels down", family(), move(top, bottom, "x"), family()},
		{"with a name that is none", family(), move(page, top, "a/b"), moved(4, top, "a/b")},
		{"with no name", family(), move(page, top, ""), moved(4, top, "")},
	})
}

// line is so many directories, each below the one ahead of it.
func line(size int) []api.Node {
	var nodes []api.Node
	parent := root()
	for i := range size {
		id := at(i+1, 0)
		nodes = append(nodes, dir(id, parent, "n"))
		parent = id
	}
	return nodes
}

func TestMoveSeveralLevelsDown(t *testing.T) {
	nodes := line(40)
	for i, n := range nodes {
		for j, below := range nodes {
			want := nodes
			if j < i {
				want = with(nodes, i, func(n *api.Node) { n.Parent, n.Name = below.ID, "x" })
			}
			if got := tree.Do(nodes, move(n.ID, below.ID, "x")); !slices.Equal(got, want) {
				t.Fatalf("Do of a move from level %d below level %d = %v", i, j, got)
			}
		}
	}
	deep := line(400)
	if got := tree.Do(deep, move(at(1, 0), at(400, 0), "x")); !slices.Equal(got, deep) {
		t.Error("the top went below the deepest one")
	}
}

// A move takes neither a manifest nor a kind along.
func TestMoveChangesParentAndNameAlone(t *testing.T) {
	x := move(page, top, "x")
	x.Dir, x.Manifest = true, "other"
	if got, want := tree.Do(family(), x), with(family(), 4, func(n *api.Node) { n.Parent, n.Name = top, "x" }); !slices.Equal(got, want) {
		t.Errorf("Do of %v = %v, want %v", x, got, want)
	}
}

func TestEdit(t *testing.T) {
	edited := func(i int, manifest string) []api.Node {
		return with(family(), i, func(n *api.Node) { n.Manifest = manifest })
	}
	checkSteps(t, []step{
		{"not there", family(), edit(none, "x"), family()},
		{"not there, of no nodes", nil, edit(none, "x"), nil},
		{"the root", family(), edit(root(), "x"), family()},
		{"the trash", family(), edit(trash(), "x"), family()},
		{"a directory", family(), edit(top, "x"), family()},
		{"a directory below", family(), edit(bottom, "x"), family()},
		{"a directory in the trash", family(), edit(gone, "x"), family()},
		{"a file", family(), edit(leaf, "x"), edited(3, "x")},
		{"a file of the root", family(), edit(note, "x"), edited(5, "x")},
		{"a file that becomes empty", family(), edit(page, ""), edited(4, "")},
		{"a file that stays the same", family(), edit(page, "of page"), family()},
		{"a file in the trash", family(), edit(lost, "x"), edited(7, "x")},
		{"to what is no manifest", family(), edit(page, strings.Repeat("\xff", 601)), edited(4, strings.Repeat("\xff", 601))},
	})
	x := edit(page, "x")
	x.Dir, x.Parent, x.Name = true, top, "other"
	checkSteps(t, []step{{"with more than a manifest", family(), x, edited(4, "x")}})
}

func TestDrop(t *testing.T) {
	dropped := func(i int) []api.Node {
		return with(family(), i, func(n *api.Node) { n.Parent = trash() })
	}
	checkSteps(t, []step{
		{"not there", family(), drop(none), family()},
		{"not there, of no nodes", nil, drop(none), nil},
		{"the root", family(), drop(root()), family()},
		{"the trash", family(), drop(trash()), family()},
		{"a file", family(), drop(leaf), dropped(3)},
		{"a file of the root", family(), drop(note), dropped(5)},
		{"a directory that has nodes below it", family(), drop(top), dropped(0)},
		{"a directory in the middle", family(), drop(middle), dropped(1)},
		{"what is in the trash", family(), drop(gone), family()},
		{"what is below a node in the trash", family(), drop(lost), dropped(7)},
		{"twice", dropped(1), drop(middle), dropped(1)},
	})
	x := drop(page)
	x.Dir, x.Parent, x.Name, x.Manifest = true, top, "other", "other"
	checkSteps(t, []step{{"with more than a node", family(), x, dropped(4)}})
	for i, n := range family() {
		once := tree.Do(family(), drop(n.ID))
		if twice := tree.Do(once, drop(n.ID)); !slices.Equal(once, dropped(i)) || !slices.Equal(twice, once) {
			t.Errorf("%v dropped once: %v, twice: %v", n, once, twice)
		}
	}
}

func TestKindsThatAreNone(t *testing.T) {
	for _, kind := range []int{0, 5, 6, -1, -2, 257, 1 << 32, 1<<32 + 1, math.MaxInt, math.MinInt} {
		for _, id := range []api.Stamp{top, leaf, note, lost, none, root(), trash()} {
			for _, x := range []api.Op{makeDir(id, root(), "x"), makeFile(id, root(), "x", "x"), move(id, root(), "x"), edit(id, "x"), drop(id)} {
				x.Kind = kind
				checkSteps(t, []step{{"a kind that is none", family(), x, family()}, {"a kind that is none, of no nodes", nil, x, nil}})
			}
		}
	}
}

// Of several nodes with the same ID the first one is changed, and the first one tells whether they are a directory and where they are.
func TestSeveralNodesWithTheSameID(t *testing.T) {
	a, b := at(2, 0), at(3, 0)
	fileFirst := []api.Node{file(a, root(), "one", "1"), dir(a, root(), "two"), file(a, root(), "three", "3")}
	dirFirst := []api.Node{dir(a, root(), "two"), file(a, root(), "one", "1"), dir(b, root(), "b"), dir(b, a, "b")}
	belowLast := []api.Node{dir(a, root(), "a"), dir(b, root(), "b"), dir(b, a, "b")}
	belowFirst := []api.Node{dir(a, root(), "a"), dir(b, a, "b"), dir(b, root(), "b")}
	checkSteps(t, []step{
		{"Make", fileFirst, makeDir(a, root(), "x"), fileFirst},
		{"Make below a file", fileFirst, makeDir(b, a, "x"), append(slices.Clone(fileFirst), dir(b, trash(), "x"))},
		{"Make below a directory", dirFirst, makeDir(at(4, 0), a, "x"), append(slices.Clone(dirFirst), dir(at(4, 0), a, "x"))},
		{"Move", fileFirst, move(a, root(), "x"), with(fileFirst, 0, func(n *api.Node) { n.Name = "x" })},
		{"Move to a file", append(slices.Clone(fileFirst), dir(b, root(), "b")), move(b, a, "x"), append(slices.Clone(fileFirst), dir(b, root(), "b"))},
		{"Move to a directory", dirFirst, move(b, a, "x"), with(dirFirst, 2, func(n *api.Node) { n.Parent, n.Name = a, "x" })},
		{"Move to one of which another is below", belowLast, move(a, b, "x"), with(belowLast, 0, func(n *api.Node) { n.Parent, n.Name = b, "x" })},
		{"Move to one that is below", belowFirst, move(a, b, "x"), belowFirst},
		{"Edit of a file", fileFirst, edit(a, "x"), with(fileFirst, 0, func(n *api.Node) { n.Manifest = "x" })},
		{"Edit of a directory", dirFirst, edit(a, "x"), dirFirst},
		{"Drop", fileFirst, drop(a), with(fileFirst, 0, func(n *api.Node) { n.Parent = trash() })},
	})
	for _, nodes := range [][]api.Node{fileFirst, dirFirst, belowLast, belowFirst} {
		for _, id := range []api.Stamp{a, b, root(), trash(), none} {
			checkAsks(t, nodes, id)
		}
	}
}

// Moves among nodes whose parents go in a circle end, and those into the circle go.
func TestMovesAmongNodesThatGoInACircle(t *testing.T) {
	a, b, c, d := at(1, 0), at(2, 0), at(3, 0), at(4, 0)
	nodes := []api.Node{dir(a, c, "a"), dir(b, a, "b"), dir(c, b, "c"), dir(d, root(), "d")}
	checkSteps(t, []step{
		{"into the circle", nodes, move(d, b, "x"), with(nodes, 3, func(n *api.Node) { n.Parent, n.Name = b, "x" })},
		{"along the circle", nodes, move(a, b, "x"), nodes},
		{"to where it is", nodes, move(a, c, "x"), nodes},
		{"out of the circle", nodes, move(a, root(), "x"), with(nodes, 0, func(n *api.Node) { n.Parent, n.Name = root(), "x" })},
		{"out of the circle to a directory", nodes, move(a, d, "x"), with(nodes, 0, func(n *api.Node) { n.Parent, n.Name = d, "x" })},
	})
}

// someStamps is the root, the trash, and some that nodes may have.
func someStamps() []api.Stamp {
	return []api.Stamp{root(), trash(), at(1, 0), at(1, 1), at(2, 0)}
}

// someOps is operations of each kind, and of kinds that are none, on some stamps.
func someOps(stamps []api.Stamp) []api.Op {
	var some []api.Op
	for kind := range 6 {
		for _, node := range stamps {
			for _, parent := range stamps {
				x := api.Op{Stamp: at(9, 9), Seq: 1, Kind: kind, Node: node, Parent: parent, Name: "new", Manifest: "new"}
				some = append(some, x)
				if kind == api.Make {
					x.Dir = true
					some = append(some, x)
				}
			}
		}
	}
	return some
}

// someNodes is nodes of some stamps, below each of them.
func someNodes(stamps []api.Stamp) []api.Node {
	var some []api.Node
	for _, id := range stamps {
		for _, parent := range stamps {
			some = append(some, dir(id, parent, "d"), file(id, parent, "f", "m"))
		}
	}
	return some
}

// All lists of up to two nodes, trees or not, the root and the trash as nodes among them.
func TestAllShortLists(t *testing.T) {
	stamps := someStamps()
	some, list := someOps(stamps), someNodes(stamps)
	check := func(nodes []api.Node) {
		for _, x := range some {
			checkDo(t, nodes, x)
		}
		for _, id := range stamps {
			checkAsks(t, nodes, id)
		}
	}
	check(nil)
	for _, a := range list {
		check([]api.Node{a})
		for _, b := range list {
			check([]api.Node{a, b})
		}
	}
}

// Longer lists in no order, with circles and with several nodes of the same ID.
func TestRandomLists(t *testing.T) {
	random := rand.New(rand.NewSource(7))
	stamps := []api.Stamp{root(), trash(), at(1, 0), at(1, 1), at(2, 0), at(2, 5), at(-1, 0), at(math.MaxInt, 0)}
	some, list := someOps(stamps), someNodes(stamps)
	for range 20000 {
		var nodes []api.Node
		for range random.Intn(9) {
			nodes = append(nodes, list[random.Intn(len(list))])
		}
		for range 10 {
			checkDo(t, nodes, some[random.Intn(len(some))])
		}
		for _, id := range stamps {
			checkAsks(t, nodes, id)
		}
	}
}

func TestFold(t *testing.T) {
	for _, c := range []struct {
		what string
		list []api.Op
		want []api.Node
	}{
		{"no operations", nil, nil},
		{"operations on no nodes", []api.Op{move(top, root(), "x"), edit(top, "x"), drop(top), {}}, nil},
		{"one node", []api.Op{makeDir(top, root(), "top")}, []api.Node{dir(top, root(), "top")}},
		{"the greater one first", []api.Op{makeFile(note, root(), "note", "m"), makeDir(top, root(), "top")}, []api.Node{dir(top, root(), "top"), file(note, root(), "note", "m")}},
		{"below one that is made later", []api.Op{makeFile(note, top, "note", "m"), makeDir(top, root(), "top")}, []api.Node{dir(top, root(), "top"), file(note, trash(), "note", "m")}},
		{"made twice", []api.Op{makeFile(note, root(), "one", "1"), makeDir(note, root(), "two")}, []api.Node{file(note, root(), "one", "1")}},
		{"one of each kind", []api.Op{makeDir(top, root(), "top"), makeFile(note, root(), "note", "m"), move(note, top, "new"), edit(note, "n"), drop(top)}, []api.Node{dir(top, trash(), "top"), file(note, top, "new", "n")}},
		{"moved ahead of being made", []api.Op{move(note, top, "new"), makeDir(top, root(), "top"), makeFile(note, root(), "note", "m")}, []api.Node{dir(top, root(), "top"), file(note, root(), "note", "m")}},
		{"dropped and moved back", []api.Op{makeDir(top, root(), "top"), drop(top), move(top, root(), "back")}, []api.Node{dir(top, root(), "back")}},
		{"below one that is dropped", []api.Op{makeDir(top, root(), "top"), drop(top), makeDir(note, top, "note")}, []api.Node{dir(top, trash(), "top"), dir(note, top, "note")}},
	} {
		if got := tree.Fold(c.list...); !slices.Equal(got, c.want) {
			t.Errorf("%s: Fold(%v) = %v, want %v", c.what, c.list, got, c.want)
		}
	}
	if got := tree.Fold(); len(got) != 0 {
		t.Errorf("Fold of nothing = %v", got)
	}
}

// The examples of the chapter.
func TestExamples(t *testing.T) {
	a, b := at(1, 0), at(2, 0)
	made := []api.Op{makeDir(a, root(), "a"), makeDir(b, a, "b")}
	want := []api.Node{dir(a, root(), "a"), dir(b, a, "b")}
	if got := tree.Fold(append(made, move(a, b, "x"))...); !slices.Equal(got, want) {
		t.Errorf("after a move below its child: %v, want %v", got, want)
	}
	nodes := tree.Fold(append(made, drop(a))...)
	if want := []api.Node{dir(a, trash(), "a"), dir(b, a, "b")}; !slices.Equal(nodes, want) {
		t.Errorf("after a drop: %v, want %v", nodes, want)
	}
	if got, want := tree.Chain(nodes, b), []api.Stamp{b, a, trash()}; !slices.Equal(got, want) {
		t.Errorf("Chain after a drop = %v, want %v", got, want)
	}
}

// P7.2

func TestFind(t *testing.T) {
	for _, n := range family() {
		if got, ok := tree.Find(family(), n.ID); got != n || !ok {
			t.Errorf("Find of %v = %v, %v", n, got, ok)
		}
	}
	for _, id := range []api.Stamp{root(), trash(), none, at(1, 1), at(0, 2), at(-1, 0), at(9, 9), at(math.MinInt, math.MaxInt)} {
		if got, ok := tree.Find(family(), id); got != (api.Node{}) || ok {
			t.Errorf("Find of %v = %v, %v", id, got, ok)
		}
		if got, ok := tree.Find(nil, id); got != (api.Node{}) || ok {
			t.Errorf("Find of %v in no nodes = %v, %v", id, got, ok)
		}
	}
	twice := []api.Node{file(note, root(), "one", "1"), dir(note, top, "two")}
	if got, ok := tree.Find(twice, note); got != twice[0] || !ok {
		t.Errorf("Find of what is there twice = %v, %v", got, ok)
	}
	listed := []api.Node{dir(trash(), root(), "t"), dir(root(), trash(), "r")}
	if got, ok := tree.Find(listed, root()); got != listed[1] || !ok {
		t.Errorf("Find of the root in a list that has it = %v, %v", got, ok)
	}
}

func TestChain(t *testing.T) {
	a, b, c := at(1, 0), at(2, 0), at(3, 0)
	circle := []api.Node{dir(a, b, "a"), dir(b, c, "b"), dir(c, a, "c"), file(leaf, b, "l", ""), dir(note, note, "own")}
	astray := []api.Node{dir(a, none, "a"), file(b, a, "b", ""), dir(c, b, "c")}
	for _, x := range []struct {
		what  string
		nodes []api.Node
		id    api.Stamp
		want  []api.Stamp
	}{
		{"of no nodes", nil, top, nil},
		{"a stamp that is no node", family(), none, nil},
		{"the root", family(), root(), nil},
		{"the trash", family(), trash(), nil},
		{"a parent that is no node", astray, none, nil},
		{"below the root", family(), top, []api.Stamp{top, root()}},
		{"a file below the root", family(), note, []api.Stamp{note, root()}},
		{"below a directory", family(), middle, []api.Stamp{middle, top, root()}},
		{"several levels down", family(), leaf, []api.Stamp{leaf, bottom, middle, top, root()}},
		{"below the trash", family(), gone, []api.Stamp{gone, trash()}},
		{"below what is in the trash", family(), lost, []api.Stamp{lost, gone, trash()}},
		{"below a stamp that is no node", astray, a, []api.Stamp{a, none}},
		{"levels below a stamp that is no node, a file between", astray, c, []api.Stamp{c, b, a, none}},
		{"in a circle", circle, a, []api.Stamp{a, b, c}},
		{"in a circle, from another one", circle, c, []api.Stamp{c, a, b}},
		{"into a circle", circle, leaf, []api.Stamp{leaf, b, c, a}},
		{"its own parent", circle, note, []api.Stamp{note}},
		{"through a root that is a node", []api.Node{dir(root(), trash(), "r"), dir(a, root(), "a")}, a, []api.Stamp{a, root(), trash()}},
	} {
		if got := tree.Chain(x.nodes, x.id); !slices.Equal(got, x.want) {
			t.Errorf("%s: Chain(%v, %v) = %v, want %v", x.what, x.nodes, x.id, got, x.want)
		}
		checkAsks(t, x.nodes, x.id)
	}
}

func TestLongChains(t *testing.T) {
	nodes := line(1000)
	chain := tree.Chain(nodes, at(1000, 0))
	if len(chain) != 1001 || chain[0] != at(1000, 0) || chain[999] != at(1, 0) || chain[1000] != root() {
		t.Errorf("the chain of 1000 levels has %d stamps", len(chain))
	}
	nodes[0].Parent = at(1000, 0)
	chain = tree.Chain(nodes, at(500, 0))
	if len(chain) != 1000 || chain[499] != at(1, 0) || chain[500] != at(1000, 0) || chain[999] != at(501, 0) {
		t.Errorf("the chain of a circle of 1000 has %d stamps", len(chain))
	}
}

func TestChildren(t *testing.T) {
	nodes := family()
	astray := []api.Node{file(at(2, 0), none, "b", "1"), dir(at(1, 0), none, "a"), dir(at(1, 0), none, "again"), dir(at(3, 0), at(3, 0), "own")}
	for _, c := range []struct {
		what   string
		nodes  []api.Node
		parent api.Stamp
		want   []api.Node
	}{
		{"the root", nodes, root(), []api.Node{nodes[0], nodes[5]}},
		{"the trash", nodes, trash(), []api.Node{nodes[6]}},
		{"a directory of one", nodes, top, []api.Node{nodes[1]}},
		{"a directory of two", nodes, middle, []api.Node{nodes[2], nodes[4]}},
		{"a directory in the trash", nodes, gone, []api.Node{nodes[7]}},
		{"a file", nodes, note, nil},
		{"a stamp that is no node", nodes, none, nil},
		{"a stamp that is no node, but a parent", astray, none, astray[:3]},
		{"itself", astray, at(3, 0), astray[3:]},
		{"an empty directory", []api.Node{dir(top, root(), "top")}, top, nil},
		{"the root of no nodes", nil, root(), nil},
		{"the trash of no nodes", nil, trash(), nil},
	} {
		if got := tree.Children(c.nodes, c.parent); !slices.Equal(got, c.want) {
			t.Errorf("%s: Children = %v, want %v", c.what, got, c.want)
		}
		checkAsks(t, c.nodes, c.parent)
	}
}

// P7.3

// checkTree holds that nodes are a tree: by the chapter's words, by each Chain, and by each Children.
func checkTree(t *testing.T, nodes []api.Node) {
	t.Helper()
	inRoot, inTrash := plainBelow(nodes, root()), plainBelow(nodes, trash())
	reached := len(tree.Children(nodes, root())) + len(tree.Children(nodes, trash()))
	for i, n := range nodes {
		if i > 0 && !plainGreater(n.ID, nodes[i-1].ID) {
			t.Fatalf("%v stands behind %v", n, nodes[i-1])
		}
		if n.Parent != root() && n.Parent != trash() && !plainIsDir(nodes, n.Parent) {
			t.Fatalf("the parent of %v is no directory", n)
		}
		if inRoot[n.ID] == inTrash[n.ID] {
			t.Fatalf("%v is below the root and the trash, or below neither: %v", n, nodes)
		}
		chain := tree.Chain(nodes, n.ID)
		end := root()
		if inTrash[n.ID] {
			end = trash()
		}
		if chain[0] != n.ID || chain[1] != n.Parent || chain[len(chain)-1] != end {
			t.Fatalf("the chain of %v is %v", n, chain)
		}
		reached += len(tree.Children(nodes, n.ID))
	}
	if reached != len(nodes) {
		t.Fatalf("%d of %d nodes are children", reached, len(nodes))
	}
}

// All histories of up to four operations on three nodes.
func TestFoldOfAllShortHistories(t *testing.T) {
	a, b, c := at(1, 0), at(1, 1), at(2, 0)
	some := []api.Op{
		makeDir(a, root(), "a"), makeDir(b, a, "b"), makeDir(c, b, "c"), makeDir(a, c, "a"), makeFile(b, c, "b", "m"),
		move(a, b, "m"), move(a, c, "m"), move(b, c, "m"), move(b, root(), "m"), move(c, a, "m"), drop(a), drop(c), edit(b, "n"),
	}
	var each func(list []api.Op, nodes []api.Node)
	each = func(list []api.Op, nodes []api.Node) {
		if got, want := tree.Fold(list...), plainFold(list); !slices.Equal(got, want) || !slices.Equal(nodes, want) {
			t.Fatalf("Fold(%v) = %v, want %v, step by step %v", list, got, want, nodes)
		}
		checkTree(t, nodes)
		if len(list) == 4 {
			return
		}
		for _, x := range some {
			each(append(slices.Clone(list), x), tree.Do(nodes, x))
		}
	}
	each(nil, nil)
}

// history is so many operations on so many stamps, of which none need fit the others.
func history(random *rand.Rand, size, stamps int) []api.Op {
	pick := func() api.Stamp {
		n := random.Intn(stamps)
		return at(n/3+1, n%3)
	}
	var list []api.Op
	for range size {
		x := api.Op{Stamp: pick(), Seq: 1, Kind: random.Intn(6), Node: pick(), Dir: random.Intn(4) > 0, Parent: pick(), Name: "n", Manifest: "m"}
		switch random.Intn(8) {
		case 0:
			x.Parent = root()
		case 1:
			x.Parent = trash()
		case 2:
			x.Kind = api.Make
		case 3:
			x.Kind = api.Move
		}
		list = append(list, x)
	}
	return list
}

func TestFoldOfLongHistories(t *testing.T) {
	random := rand.New(rand.NewSource(3))
	for _, size := range []int{5, 20, 60, 400} {
		for _, stamps := range []int{2, 8, 30, 200} {
			for range 5 {
				list := history(random, size, stamps)
				nodes := tree.Fold(list...)
				if want := plainFold(list); !slices.Equal(nodes, want) {
					t.Fatalf("Fold(%v) = %v, want %v", list, nodes, want)
				}
				checkTree(t, nodes)
			}
		}
	}
}

// Fold does one operation behind the other: in parts it comes to the same.
func TestFoldGoesOnByDo(t *testing.T) {
	random := rand.New(rand.NewSource(4))
	list := history(random, 300, 40)
	var nodes []api.Node
	for i, x := range list {
		nodes = tree.Do(nodes, x)
		if got := tree.Fold(list[:i+1]...); !slices.Equal(got, nodes) {
			t.Fatalf("after %d operations Fold = %v, and Do %v", i+1, got, nodes)
		}
		checkTree(t, nodes)
	}
}

func TestFoldOfManyNodes(t *testing.T) {
	var list []api.Op
	for i := range api.MaxOps {
		list = append(list, makeDir(at(api.MaxOps-i, 0), root(), "n"))
	}
	nodes := tree.Fold(list...)
	if len(nodes) != api.MaxOps || nodes[0].ID != at(1, 0) || nodes[api.MaxOps-1].ID != at(api.MaxOps, 0) {
		t.Errorf("%d operations made %d nodes", api.MaxOps, len(nodes))
	}
	checkTree(t, nodes)
}

// R1 to R3

// spare is nodes with more memory behind them, which keeps what is written there.
func spare(nodes []api.Node) []api.Node {
	whole := append(slices.Clone(nodes), dir(at(70, 7), root(), "spare"), dir(at(71, 7), root(), "spare"))
	return whole[:len(nodes)]
}

func TestArgumentsStayAsTheyAre(t *testing.T) {
	nodes := spare(family())
	size := len(nodes)
	whole := slices.Clone(nodes[:size+2])
	list := []api.Op{makeDir(at(2, 0), top, "x"), makeDir(at(9, 0), root(), "x"), move(note, top, "x"), edit(leaf, "x"), drop(top), drop(none), {}}
	kept := slices.Clone(list)
	for _, x := range list {
		tree.Do(nodes, x)
	}
	tree.Fold(list[:4]...)
	tree.Find(nodes, top)
	tree.Chain(nodes, leaf)
	tree.Children(nodes, root())
	if !slices.Equal(nodes[:size+2], whole) || !slices.Equal(list, kept) {
		t.Errorf("the arguments became %v and %v", nodes[:size+2], list)
	}
}

// spoil writes all over a list, beyond its length also.
func spoil(nodes []api.Node) {
	nodes = nodes[:cap(nodes)]
	for i := range nodes {
		nodes[i] = dir(at(-7, -7), at(-7, -7), "spoilt")
	}
}

func TestAnswersAreNewMemory(t *testing.T) {
	nodes := spare(family())
	size := len(nodes)
	whole := slices.Clone(nodes[:size+2])
	for _, x := range []api.Op{makeDir(at(2, 0), top, "x"), makeDir(top, top, "x"), move(note, top, "x"), move(top, leaf, "x"), edit(leaf, "x"), edit(top, "x"), drop(top), drop(none), {}} {
		spoil(tree.Do(nodes, x))
	}
	for _, parent := range []api.Stamp{root(), trash(), middle, none} {
		spoil(tree.Children(nodes, parent))
	}
	chain := tree.Chain(nodes, leaf)
	again := tree.Chain(nodes, leaf)
	chain[0] = none
	if !slices.Equal(nodes[:size+2], whole) || again[0] != leaf {
		t.Errorf("the nodes became %v, and a chain %v, with other answers", nodes[:size+2], again)
	}
	list := []api.Op{makeDir(top, root(), "top"), makeFile(note, top, "note", "m")}
	first := tree.Fold(list...)
	spoil(tree.Fold(list...))
	if want := []api.Node{dir(top, root(), "top"), file(note, top, "note", "m")}; !slices.Equal(first, want) {
		t.Errorf("Fold's answer became %v with another one", first)
	}
}

// sharesText tells whether texts are the same memory.
func sharesText(a, b string) bool {
	return len(a) > 0 && len(b) > 0 && unsafe.StringData(a) == unsafe.StringData(b)
}

func TestTextsOfAnswersAreNewMemory(t *testing.T) {
	nodes := family()
	x, y, z := makeFile(at(2, 0), top, "made", "manifest"), move(page, top, "moved"), edit(page, "edited")
	texts := []string{x.Name, x.Manifest, y.Name, z.Manifest}
	for _, n := range nodes {
		texts = append(texts, n.Name, n.Manifest)
	}
	check := func(what string, got ...api.Node) {
		t.Helper()
		for _, n := range got {
			for _, text := range texts {
				if sharesText(n.Name, text) || sharesText(n.Manifest, text) {
					t.Errorf("%s shares %q with an argument", what, text)
				}
			}
		}
	}
	check("Fold", tree.Fold(x, makeFile(page, root(), "page", ""), y, z)...)
	for _, op := range []api.Op{x, y, z, drop(top), {}} {
		check("Do", tree.Do(nodes, op)...)
	}
	for _, n := range nodes {
		found, _ := tree.Find(nodes, n.ID)
		check("Find", found)
		check("Children", tree.Children(nodes, n.Parent)...)
	}
}

func TestAnswersHangOnTheArgumentsAlone(t *testing.T) {
	list := history(rand.New(rand.NewSource(5)), 60, 12)
	nodes := family()
	var wait sync.WaitGroup
	for range 8 {
		wait.Go(func() {
			for i, x := range list {
				if got, want := tree.Fold(list[:i]...), plainFold(list[:i]); !slices.Equal(got, want) {
					t.Errorf("Fold(%v) = %v, want %v", list[:i], got, want)
				}
				if got, want := tree.Do(nodes, x), plainDo(nodes, x); !slices.Equal(got, want) {
					t.Errorf("Do(%v, %v) = %v, want %v", nodes, x, got, want)
				}
				if got, want := tree.Chain(nodes, x.Node), plainChain(nodes, x.Node); !slices.Equal(got, want) {
					t.Errorf("Chain(%v, %v) = %v, want %v", nodes, x.Node, got, want)
				}
			}
		})
	}
	wait.Wait()
}

// Ways

func TestOperationsAreVariadic(t *testing.T) {
	var fold func(...api.Op) []api.Node = tree.Fold
	got := fold(makeDir(top, root(), "top"), makeDir(middle, top, "middle"), drop(top))
	if want := []api.Node{dir(top, trash(), "top"), dir(middle, top, "middle")}; !slices.Equal(got, want) {
		t.Errorf("Fold of three operations = %v, want %v", got, want)
	}
}

// FuzzDo takes each three bytes as a node, its ID, its parent and its kind, and does an operation.
func FuzzDo(f *testing.F) {
	f.Add([]byte{2, 0, 1, 3, 2, 1, 4, 3, 0}, 1, 5, 0, 3, true)
	f.Add([]byte{2, 3, 1, 3, 2, 1}, 2, 2, 0, 3, false)
	f.Fuzz(func(t *testing.T, data []byte, kind, count, who, parent int, isDir bool) {
		var nodes []api.Node
		for part := range slices.Chunk(data, 3) {
			if len(part) == 3 && len(nodes) < 40 {
				nodes = append(nodes, api.Node{ID: at(int(part[0]>>1), int(part[0]&1)), Parent: at(int(part[1]>>1), int(part[1]&1)), Dir: part[2]&1 > 0, Name: "n"})
			}
		}
		x := api.Op{Stamp: at(1, 1), Seq: 1, Kind: kind, Node: at(count, who), Dir: isDir, Parent: at(parent>>1, parent&1), Name: "x", Manifest: "m"}
		checkDo(t, nodes, x)
		checkAsks(t, nodes, x.Node)
		checkAsks(t, nodes, x.Parent)
	})
}

// FuzzFold takes each three bytes as an operation: its kind, its node and its parent.
func FuzzFold(f *testing.F) {
	f.Add([]byte{9, 2, 0, 9, 3, 2, 2, 2, 3, 4, 2, 0})
	f.Fuzz(func(t *testing.T, data []byte) {
		var list []api.Op
		for part := range slices.Chunk(data, 3) {
			if len(part) == 3 && part[1] >= 2 && len(list) < 100 {
				list = append(list, api.Op{Kind: int(part[0] & 7), Dir: part[0]&8 > 0, Node: at(int(part[1]>>1), int(part[1]&1)), Parent: at(int(part[2]>>1), int(part[2]&1)), Name: "n"})
			}
		}
		nodes := tree.Fold(list...)
		if want := plainFold(list); !slices.Equal(nodes, want) {
			t.Errorf("Fold(%v) = %v, want %v", list, nodes, want)
		}
		checkTree(t, nodes)
	})
}
