package move_test

import (
	"cmp"
	"fmt"
	"math"
	"math/rand"
	"slices"
	"strings"
	"sync"
	"testing"
	"unsafe"

	"arbour/api"
	"arbour/move"
	"arbour/tree"
)

func at(count, who int) api.Stamp { return api.Stamp{Count: count, Who: who} }

func root() api.Stamp { return at(0, 0) }

func trash() api.Stamp { return at(0, 1) }

func makeDir(stamp, parent api.Stamp, name string) api.Op {
	return api.Op{Stamp: stamp, Seq: 1, Kind: api.Make, Node: stamp, Dir: true, Parent: parent, Name: name}
}

func makeFile(stamp, parent api.Stamp, name, manifest string) api.Op {
	return api.Op{Stamp: stamp, Seq: 1, Kind: api.Make, Node: stamp, Parent: parent, Name: name, Manifest: manifest}
}

func moveTo(stamp, id, parent api.Stamp, name string) api.Op {
	return api.Op{Stamp: stamp, Seq: 1, Kind: api.Move, Node: id, Parent: parent, Name: name}
}

func edit(stamp, id api.Stamp, manifest string) api.Op {
	return api.Op{Stamp: stamp, Seq: 1, Kind: api.Edit, Node: id, Manifest: manifest}
}

func drop(stamp, id api.Stamp) api.Op {
	return api.Op{Stamp: stamp, Seq: 1, Kind: api.Drop, Node: id}
}

func dir(id, parent api.Stamp, name string) api.Node {
	return api.Node{ID: id, Dir: true, Parent: parent, Name: name}
}

func file(id, parent api.Stamp, name, manifest string) api.Node {
	return api.Node{ID: id, Parent: parent, Name: name, Manifest: manifest}
}

// earlier compares operations by their stamps, without clock.
func earlier(a, b api.Op) int {
	return cmp.Or(cmp.Compare(a.Stamp.Count, b.Stamp.Count), cmp.Compare(a.Stamp.Who, b.Stamp.Who))
}

// plainState is the chapter's sentences, with nothing undone: all operations, sorted, and folded anew at each question.
type plainState struct {
	list []api.Op
	last api.Stamp
}

func (p *plainState) insert(x api.Op) api.Errno {
	if x.Stamp.Count < 1 || x.Stamp.Count > 1<<40 || x.Stamp.Who < 0 || x.Stamp.Who > 14 {
		return api.ErrStamp
	}
	if slices.ContainsFunc(p.list, func(y api.Op) bool { return y.Stamp == x.Stamp }) {
		return api.ErrTwice
	}
	if len(p.list) >= 400 {
		return api.ErrBig
	}
	p.list = append(p.list, x)
	slices.SortFunc(p.list, earlier)
	p.last = x.Stamp
	return api.OK
}

func (p *plainState) redone() int {
	if len(p.list) == 0 {
		return 0
	}
	redone := 0
	for _, x := range p.list {
		if earlier(x, api.Op{Stamp: p.last}) > 0 {
			redone++
		}
	}
	return redone
}

// checkSame holds what a state answers against the plain one.
func checkSame(t *testing.T, s *move.State, p *plainState) {
	t.Helper()
	if got := s.Ops(); !slices.Equal(got, p.list) {
		t.Fatalf("Ops = %v, want %v", got, p.list)
	}
	if got, want := s.Nodes(), tree.Fold(p.list...); !slices.Equal(got, want) {
		t.Fatalf("Nodes behind %v = %v, want %v", p.list, got, want)
	}
	if got, want := s.Redone(), p.redone(); got != want {
		t.Fatalf("Redone behind %v, the last one of %v, = %d, want %d", p.list, p.last, got, want)
	}
}

// checkInsert inserts an operation in both and holds them against each other.
func checkInsert(t *testing.T, s *move.State, p *plainState, x api.Op) {
	t.Helper()
	if got, want := s.Insert(x), p.insert(x); got != want {
		t.Fatalf("Insert(%v) behind %v = %v, want %v", x, p.list, got, want)
	}
	checkSame(t, s, p)
}

// checkAll inserts operations in their order, each one held against the plain state.
func checkAll(t *testing.T, list ...api.Op) *move.State {
	t.Helper()
	s, p := move.New(), &plainState{}
	for _, x := range list {
		checkInsert(t, s, p, x)
	}
	return s
}

// checkOrders inserts operations in all orders, and holds the end against the nodes.
func checkOrders(t *testing.T, what string, want []api.Node, list ...api.Op) {
	t.Helper()
	each(list, func(order []api.Op) {
		if got := checkAll(t, order...).Nodes(); !slices.Equal(got, want) {
			t.Fatalf("%s: Nodes in the order %v = %v, want %v", what, order, got, want)
		}
	})
}

// each goes through all orders of a list.
func each(list []api.Op, do func([]api.Op)) {
	var put func(head, rest []api.Op)
	put = func(head, rest []api.Op) {
		if len(rest) == 0 {
			do(head)
		}
		for i, x := range rest {
			put(append(slices.Clone(head), x), slices.Delete(slices.Clone(rest), i, i+1))
		}
	}
	put(nil, list)
}

// filled is a state of so many operations, of the even Counts.
func filled(t *testing.T, size int) (*move.State, *plainState) {
	t.Helper()
	s, p := move.New(), &plainState{}
	for i := range size {
		x := makeDir(at(2*i+2, 3), root(), "n")
		if s.Insert(x) != p.insert(x) {
			t.Fatalf("Insert(%v) is refused", x)
		}
	}
	return s, p
}

// P8.1

func TestNewHasNoOperations(t *testing.T) {
	s := move.New()
	if s == nil {
		t.Fatal("New = nil")
	}
	if len(s.Ops()) != 0 || len(s.Nodes()) != 0 || s.Redone() != 0 {
		t.Errorf("New has %v, %v, %d", s.Ops(), s.Nodes(), s.Redone())
	}
}

func TestStatesAreApart(t *testing.T) {
	s, other := move.New(), move.New()
	s.Insert(makeDir(at(1, 0), root(), "a"))
	if len(other.Ops()) != 0 || len(other.Nodes()) != 0 {
		t.Errorf("another state has %v", other.Ops())
	}
	if got := other.Insert(makeDir(at(1, 0), root(), "b")); got != api.OK {
		t.Errorf("Insert into another state = %v", got)
	}
	if got := s.Nodes(); !slices.Equal(got, []api.Node{dir(at(1, 0), root(), "a")}) {
		t.Errorf("Nodes = %v", got)
	}
}

// A state that New did not make has no operations either.
func TestZeroStateIsOneWithoutOperations(t *testing.T) {
	var s move.State
	if len(s.Ops()) != 0 || len(s.Nodes()) != 0 || s.Redone() != 0 {
		t.Errorf("a zero state has %v, %v, %d", s.Ops(), s.Nodes(), s.Redone())
	}
	p := &plainState{}
	for _, x := range []api.Op{edit(at(3, 0), at(1, 0), "m"), makeFile(at(1, 0), root(), "a", ""), drop(at(2, 0), at(1, 0))} {
		checkInsert(t, &s, p, x)
	}
}

func TestNilState(t *testing.T) {
	var s *move.State
	for _, x := range []api.Op{{}, makeDir(at(1, 0), root(), "a"), makeDir(at(0, 0), root(), "a"), makeDir(at(-1, 99), root(), "a")} {
		if got := s.Insert(x); got != api.ErrNil {
			t.Errorf("Insert(%v) into nil = %v", x, got)
		}
	}
	if len(s.Nodes()) != 0 || len(s.Ops()) != 0 || s.Redone() != 0 {
		t.Errorf("nil has %v, %v, %d", s.Nodes(), s.Ops(), s.Redone())
	}
}

// wrongStamps are stamps that are not valid, at each limit.
func wrongStamps() []api.Stamp {
	return []api.Stamp{
		{}, at(0, 1), at(0, 14), at(-1, 0), at(math.MinInt, 0), at(api.MaxCount+1, 0), at(math.MaxInt, 0),
		at(1, -1), at(1, math.MinInt), at(1, api.MaxWho), at(1, math.MaxInt), at(api.MaxCount, api.MaxWho), at(-1, -1),
	}
}

func TestInsertOfAWrongStamp(t *testing.T) {
	for _, stamp := range wrongStamps() {
		x := makeDir(stamp, root(), "a")
		checkInsert(t, move.New(), &plainState{}, x)
		if got := move.New().Insert(x); got != api.ErrStamp {
			t.Errorf("Insert(%v) = %v", x, got)
		}
		s, p := filled(t, 3)
		checkInsert(t, s, p, x)
		checkInsert(t, s, p, makeDir(at(3, 0), at(2, 3), "b"))
	}
}

func TestInsertOfStampsAtTheLimits(t *testing.T) {
	s := checkAll(t, makeDir(at(api.MaxCount, 14), root(), "d"), makeDir(at(1, 0), root(), "a"), makeDir(at(api.MaxCount, 0), root(), "c"), makeDir(at(1, 14), root(), "b"))
	if got := len(s.Ops()); got != 4 {
		t.Errorf("%d operations are there, want 4", got)
	}
}

func TestInsertOfAStampThatIsThere(t *testing.T) {
	for i := range 7 {
		s, p := filled(t, 7)
		same := p.list[i]
		for _, x := range []api.Op{same, drop(same.Stamp, at(2, 3)), {Stamp: same.Stamp}, makeFile(same.Stamp, trash(), "other", "m")} {
			if got := s.Insert(x); got != api.ErrTwice {
				t.Errorf("Insert(%v) of a stamp that is there = %v", x, got)
			}
			checkSame(t, s, p)
		}
	}
	s, p := filled(t, 7)
	for _, stamp := range []api.Stamp{at(2, 2), at(2, 4), at(3, 3), at(14, 0), at(14, 14)} {
		checkInsert(t, s, p, drop(stamp, at(2, 3)))
	}
}

// Whether an operation is valid but for its Stamp, another layer tells.
func TestInsertOfWhatIsValidButForItsStampAlone(t *testing.T) {
	long := strings.Repeat("n", api.MaxName+1)
	here := at(5, 5)
	for _, x := range []api.Op{
		{Stamp: here},
		{Stamp: here, Seq: -1, Kind: -1},
		{Stamp: here, Kind: 5, Node: at(2, 3), Name: "x"},
		{Stamp: here, Kind: math.MaxInt, Node: at(2, 3), Parent: at(4, 3)},
		{Stamp: here, Seq: math.MinInt, Kind: api.Make, Node: at(9, 9), Name: "a/b"},
		{Stamp: here, Kind: api.Make, Node: at(-1, 99), Name: "", Manifest: "\xff"},
		{Stamp: here, Kind: api.Make, Node: root(), Dir: true, Name: long},
		{Stamp: here, Kind: api.Make, Node: trash(), Dir: true, Parent: at(4, 3)},
		{Stamp: here, Kind: api.Make, Node: here, Dir: true, Parent: here, Manifest: "m"},
		{Stamp: here, Kind: api.Move, Node: at(4, 3), Parent: at(4, 3), Name: ".."},
		{Stamp: here, Kind: api.Move, Node: at(4, 3), Parent: at(2, 3), Name: long, Manifest: "m", Dir: true},
		{Stamp: here, Kind: api.Move, Node: root(), Parent: trash()},
		{Stamp: here, Kind: api.Edit, Node: at(2, 3), Manifest: strings.Repeat("m", 999)},
		{Stamp: here, Kind: api.Drop, Node: at(2, 3), Name: "x", Parent: at(4, 3)},
		{Stamp: here, Kind: api.Drop, Node: trash()},
		{Stamp: here, Kind: api.Drop, Node: at(math.MaxInt, math.MinInt)},
	} {
		s, p := filled(t, 4)
		if got := s.Insert(x); got != api.OK {
			t.Errorf("Insert(%v) = %v", x, got)
		}
		p.insert(x)
		checkSame(t, s, p)
		checkInsert(t, s, p, moveTo(at(1, 0), at(6, 3), at(8, 3), "y"))
		checkInsert(t, s, p, moveTo(at(3, 0), at(4, 3), at(2, 3), "y"))
	}
}

func TestInsertOfTheLastOneAndOneMore(t *testing.T) {
	for _, stamp := range []api.Stamp{at(1, 0), at(401, 0), at(2, 4), at(9999, 9)} {
		s, p := filled(t, api.MaxOps-1)
		last := moveTo(stamp, at(2, 3), at(4, 3), "x")
		if got := s.Insert(last); got != api.OK {
			t.Fatalf("Insert of the 400th, %v, = %v", last, got)
		}
		p.insert(last)
		checkSame(t, s, p)
		for _, more := range []api.Stamp{at(1, 1), at(401, 1), at(9999, 10)} {
			if got := s.Insert(drop(more, at(2, 3))); got != api.ErrBig {
				t.Errorf("Insert of the 401st, of %v, = %v", more, got)
			}
			checkSame(t, s, p)
		}
	}
}

func TestTheFirstErrorIsTold(t *testing.T) {
	s, p := filled(t, api.MaxOps)
	for _, c := range []struct {
		what  string
		stamp api.Stamp
		want  api.Errno
	}{
		{"a wrong stamp ahead of what is too much", at(0, 0), api.ErrStamp},
		{"a wrong stamp of a Count that is there", at(2, 99), api.ErrStamp},
		{"a stamp that is there ahead of what is too much", at(2, 3), api.ErrTwice},
		{"the last stamp that is there", at(800, 3), api.ErrTwice},
		{"what is too much", at(3, 3), api.ErrBig},
	} {
		if got := s.Insert(makeDir(c.stamp, root(), "x")); got != c.want {
			t.Errorf("%s: %v, want %v", c.what, got, c.want)
		}
		checkSame(t, s, p)
	}
}

// Redone is kept over errors, also where it is neither none nor all.
func TestErrorsChangeNothing(t *testing.T) {
	s, p := filled(t, 5)
	checkInsert(t, s, p, moveTo(at(5, 0), at(2, 3), at(4, 3), "x"))
	for _, stamp := range append(wrongStamps(), at(2, 3), at(5, 0), at(10, 3)) {
		checkInsert(t, s, p, drop(stamp, at(2, 3)))
		if s.Redone() != 3 {
			t.Fatalf("Redone behind a refused Insert = %d, want 3", s.Redone())
		}
	}
}

// P8.2

func TestOperationsComeAnywhere(t *testing.T) {
	a, b, c, d, e := at(1, 0), at(2, 0), at(2, 5), at(3, 0), at(9, 0)
	list := []api.Op{makeDir(a, root(), "a"), makeDir(b, a, "b"), makeFile(c, b, "c", "m"), edit(d, c, "n"), moveTo(e, b, root(), "e")}
	want := []api.Node{dir(a, root(), "a"), dir(b, root(), "e"), file(c, b, "c", "n")}
	checkOrders(t, "five operations", want, list...)
	for i, x := range list {
		rest := slices.Delete(slices.Clone(list), i, i+1)
		s := checkAll(t, append(rest, x)...)
		if s.Redone() != len(list)-1-i || !slices.Equal(s.Ops(), list) {
			t.Errorf("the operation at %d came last: Redone = %d, Ops = %v", i, s.Redone(), s.Ops())
		}
	}
}

func TestMakesBehindTheOperationsOfTheirNodes(t *testing.T) {
	a, b := at(1, 0), at(2, 0)
	checkOrders(t, "a move", []api.Node{dir(a, root(), "a"), dir(b, a, "x")},
		makeDir(a, root(), "a"), makeDir(b, root(), "b"), moveTo(at(3, 0), b, a, "x"))
	checkOrders(t, "an edit", []api.Node{file(a, root(), "a", "new")},
		makeFile(a, root(), "a", "old"), edit(at(3, 0), a, "new"))
	checkOrders(t, "a drop", []api.Node{dir(a, trash(), "a"), file(b, a, "b", "")},
		makeDir(a, root(), "a"), makeFile(b, a, "b", ""), drop(at(3, 0), a))
	checkOrders(t, "all of them", []api.Node{dir(a, trash(), "a"), file(b, a, "y", "n")},
		makeDir(a, root(), "a"), makeFile(b, a, "b", "m"), moveTo(at(3, 0), b, root(), "x"), edit(at(4, 0), b, "n"), drop(at(5, 0), a), moveTo(at(6, 0), b, a, "y"))
}

// A Make whose parent comes behind it by its stamp goes to the trash for good, and one whose parent's Make only arrives later doesn't.
func TestMakesBelowWhatComesLater(t *testing.T) {
	a, b := at(1, 0), at(2, 0)
	checkOrders(t, "the parent first", []api.Node{dir(a, root(), "a"), dir(b, a, "b")}, makeDir(a, root(), "a"), makeDir(b, a, "b"))
	checkOrders(t, "the child first", []api.Node{dir(a, trash(), "a"), dir(b, root(), "b")}, makeDir(a, b, "a"), makeDir(b, root(), "b"))
	checkOrders(t, "below a file", []api.Node{file(a, root(), "a", ""), dir(b, trash(), "b")}, makeFile(a, root(), "a", ""), makeDir(b, a, "b"))
}

func TestMovesThatWouldMakeACycle(t *testing.T) {
	a, b, c := at(1, 0), at(1, 1), at(1, 2)
	checkOrders(t, "two", []api.Node{dir(a, b, "x"), dir(b, root(), "b")},
		makeDir(a, root(), "a"), makeDir(b, root(), "b"), moveTo(at(2, 0), a, b, "x"), moveTo(at(2, 1), b, a, "y"))
	checkOrders(t, "two, the other way round", []api.Node{dir(a, root(), "a"), dir(b, a, "y")},
		makeDir(a, root(), "a"), makeDir(b, root(), "b"), moveTo(at(2, 1), a, b, "x"), moveTo(at(2, 0), b, a, "y"))
	checkOrders(t, "three", []api.Node{dir(a, b, "x"), dir(b, c, "y"), dir(c, root(), "c")},
		makeDir(a, root(), "a"), makeDir(b, root(), "b"), makeDir(c, root(), "c"), moveTo(at(2, 0), a, b, "x"), moveTo(at(2, 1), b, c, "y"), moveTo(at(2, 2), c, a, "z"))
	checkOrders(t, "below itself", []api.Node{dir(a, root(), "a")}, makeDir(a, root(), "a"), moveTo(at(2, 0), a, a, "x"))
	checkOrders(t, "one that a move between lets through", []api.Node{dir(a, b, "x"), dir(b, root(), "z")},
		makeDir(a, root(), "a"), makeDir(b, a, "b"), moveTo(at(2, 0), b, root(), "z"), moveTo(at(2, 1), a, b, "x"))
}

func TestOperationsOfNodesThatAreNotThere(t *testing.T) {
	a, none := at(1, 0), at(7, 7)
	for _, parent := range []api.Stamp{root(), trash(), a, none} {
		checkOrders(t, "a move", []api.Node{dir(a, root(), "a")}, makeDir(a, root(), "a"), moveTo(at(2, 0), none, parent, "x"), moveTo(at(3, 0), none, parent, "y"))
	}
	checkOrders(t, "an edit", []api.Node{dir(a, root(), "a")}, makeDir(a, root(), "a"), edit(at(2, 0), none, "m"), edit(at(3, 0), root(), "m"))
	checkOrders(t, "a drop", []api.Node{dir(a, root(), "a")}, makeDir(a, root(), "a"), drop(at(2, 0), none), drop(at(3, 0), trash()))
	checkOrders(t, "all of them, of none", nil, moveTo(at(1, 0), none, root(), "x"), edit(at(2, 0), none, "m"), drop(at(3, 0), none))
	checkOrders(t, "to what is not there", []api.Node{dir(a, root(), "a")}, makeDir(a, root(), "a"), moveTo(at(2, 0), a, none, "x"), moveTo(at(3, 0), a, trash(), "y"))
	checkOrders(t, "an edit of a directory", []api.Node{dir(a, root(), "a")}, makeDir(a, root(), "a"), edit(at(2, 0), a, "m"))
}

// again is a Make of a node that another operation makes also.
func again(stamp, id, parent api.Stamp, isDir bool, name string) api.Op {
	return api.Op{Stamp: stamp, Seq: 1, Kind: api.Make, Node: id, Dir: isDir, Parent: parent, Name: name}
}

func TestMakesOfNodesThatAreThere(t *testing.T) {
	a, b := at(1, 0), at(2, 0)
	checkOrders(t, "another kind", []api.Node{dir(a, root(), "a")}, makeDir(a, root(), "a"), again(b, a, root(), false, "x"), again(at(3, 0), a, a, true, "y"))
	checkOrders(t, "the earliest one makes it", []api.Node{{ID: b, Name: "x"}}, again(a, b, root(), false, "x"), makeDir(b, root(), "b"), again(at(3, 0), b, root(), true, "y"))
	checkOrders(t, "with others between", []api.Node{{ID: a, Parent: trash(), Name: "z"}},
		again(at(1, 1), a, root(), false, "x"), moveTo(at(2, 0), a, root(), "z"), again(at(3, 0), a, root(), true, "y"), drop(at(4, 0), a))
}

func TestDropsThatAreUndoneAndDoneAgain(t *testing.T) {
	a, b := at(1, 0), at(2, 0)
	list := []api.Op{makeDir(a, root(), "a"), drop(at(5, 0), a)}
	s, p := move.New(), &plainState{}
	for _, x := range list {
		checkInsert(t, s, p, x)
	}
	checkInsert(t, s, p, makeFile(b, a, "b", "m"))
	if got, want := s.Nodes(), []api.Node{dir(a, trash(), "a"), file(b, a, "b", "m")}; !slices.Equal(got, want) {
		t.Errorf("Nodes = %v, want %v", got, want)
	}
	checkInsert(t, s, p, drop(at(3, 0), a))
	checkInsert(t, s, p, moveTo(at(4, 0), a, root(), "back"))
	if got, want := s.Nodes(), []api.Node{dir(a, trash(), "back"), file(b, a, "b", "m")}; !slices.Equal(got, want) {
		t.Errorf("Nodes = %v, want %v", got, want)
	}
	checkInsert(t, s, p, moveTo(at(6, 0), a, root(), "back again"))
	checkInsert(t, s, p, drop(at(5, 1), b))
	if got, want := s.Nodes(), []api.Node{dir(a, root(), "back again"), file(b, trash(), "b", "m")}; !slices.Equal(got, want) {
		t.Errorf("Nodes = %v, want %v", got, want)
	}
	checkOrders(t, "in all orders", s.Nodes(), s.Ops()...)
}

// What one operation hid from the next is there again when it is undone.
func TestOneNodeChangedOftenOver(t *testing.T) {
	a := at(1, 0)
	list := []api.Op{makeFile(a, root(), "a", "0")}
	for i := range 60 {
		stamp := at(i+2, i%5)
		list = append(list, []api.Op{edit(stamp, a, fmt.Sprint(i)), moveTo(stamp, a, root(), fmt.Sprint(i)), drop(stamp, a)}[i%3])
	}
	random := rand.New(rand.NewSource(1))
	for range 5 {
		random.Shuffle(len(list), func(i, j int) { list[i], list[j] = list[j], list[i] })
		checkAll(t, list...)
	}
}

func TestExample(t *testing.T) {
	a, b := at(1, 0), at(2, 0)
	s := move.New()
	for _, x := range []api.Op{moveTo(at(3, 0), b, a, "b"), makeDir(a, root(), "a"), makeDir(b, root(), "b")} {
		if got := s.Insert(x); got != api.OK {
			t.Errorf("Insert(%v) = %v", x, got)
		}
	}
	if got, want := s.Nodes(), []api.Node{dir(a, root(), "a"), dir(b, a, "b")}; !slices.Equal(got, want) {
		t.Errorf("Nodes = %v, want %v", got, want)
	}
	if got := s.Redone(); got != 1 {
		t.Errorf("Redone = %d, want 1", got)
	}
}

// P8.3

func TestRedone(t *testing.T) {
	s := move.New()
	for _, c := range []struct {
		what  string
		stamp api.Stamp
		want  int
	}{
		{"the first one", at(10, 5), 0},
		{"at the end, by the count", at(12, 0), 0},
		{"at the end, by the device", at(12, 1), 0},
		{"at the front, all of them", at(9, 14), 3},
		{"in the middle, by the count", at(11, 9), 2},
		{"in the middle, by the device", at(10, 6), 3},
		{"ahead of the last one", at(12, 0), -1},
		{"refused", at(0, 0), -1},
		{"at the front again", at(1, 0), 6},
		{"behind the first one", at(1, 1), 6},
		{"at the end again", at(13, 0), 0},
	} {
		before := s.Redone()
		err := s.Insert(drop(c.stamp, at(1, 0)))
		want := c.want
		if want < 0 {
			want = before
		}
		if (err == api.OK) != (c.want >= 0) || s.Redone() != want {
			t.Errorf("%s: Insert = %v, Redone = %d, want %d", c.what, err, s.Redone(), want)
		}
	}
}

// Operations that change nothing are done again as others are.
func TestRedoneCountsAllOperations(t *testing.T) {
	s := move.New()
	for i := range api.MaxOps {
		stamp := at(api.MaxOps-i, 0)
		if got := s.Insert(api.Op{Stamp: stamp}); got != api.OK || s.Redone() != i {
			t.Fatalf("Insert of the one ahead of %d = %v, Redone = %d", i, got, s.Redone())
		}
	}
}

// P8.4

// history is so many operations on so many stamps, of which none need fit the others.
func history(random *rand.Rand, size, stamps int) []api.Op {
	pick := func() api.Stamp {
		n := random.Intn(stamps)
		return at(n/3+1, n%3)
	}
	var list []api.Op
	for i := range size {
		x := api.Op{Stamp: at(i/4+1, i%4), Seq: i, Kind: random.Intn(6), Node: pick(), Dir: random.Intn(4) > 0, Parent: pick(), Name: fmt.Sprint(i), Manifest: fmt.Sprint(-i)}
		switch random.Intn(8) {
		case 0:
			x.Parent = root()
		case 1:
			x.Parent = trash()
		case 2:
			x.Kind = api.Make
		case 3:
			x.Kind = api.Move
		}
		list = append(list, x)
	}
	random.Shuffle(len(list), func(i, j int) { list[i], list[j] = list[j], list[i] })
	return list
}

func TestAllOrdersOfShortHistories(t *testing.T) {
	random := rand.New(rand.NewSource(2))
	for range 40 {
		list := history(random, 5, 4)
		sorted := slices.SortedFunc(slices.Values(list), earlier)
		checkOrders(t, "five of them", tree.Fold(sorted...), list...)
	}
}

func TestLongHistories(t *testing.T) {
	random := rand.New(rand.NewSource(3))
	for _, size := range []int{10, 40, 120} {
		for _, stamps := range []int{2, 8, 30, 90} {
			checkAll(t, history(random, size, stamps)...)
		}
	}
}

// Devices to which the same operations come in other orders have the same tree.
func TestTheOrderTellsNothing(t *testing.T) {
	random := rand.New(rand.NewSource(4))
	for _, stamps := range []int{6, 40, 300} {
		list := history(random, api.MaxOps, stamps)
		sorted := slices.SortedFunc(slices.Values(list), earlier)
		want := tree.Fold(sorted...)
		reversed := slices.Clone(sorted)
		slices.Reverse(reversed)
		for _, order := range [][]api.Op{list, sorted, reversed} {
			s := move.New()
			for _, x := range order {
				if got := s.Insert(x); got != api.OK {
					t.Fatalf("Insert(%v) = %v", x, got)
				}
			}
			if !slices.Equal(s.Nodes(), want) || !slices.Equal(s.Ops(), sorted) {
				t.Fatalf("the order tells something, with %d stamps", stamps)
			}
		}
	}
}

// Of operations that make the root or the trash a node, or go to and fro between them, the tree is that of Fold also, and each Insert ends.
func TestOperationsOnTheRootAndTheTrash(t *testing.T) {
	random := rand.New(rand.NewSource(5))
	ids := []api.Stamp{root(), trash(), at(1, 0), at(1, 1), at(-1, 0), at(0, 2)}
	for range 300 {
		var list []api.Op
		for i := range 12 {
			kind := []int{api.Make, api.Make, api.Move, api.Move, api.Edit, api.Drop}[random.Intn(6)]
			list = append(list, api.Op{Stamp: at(i+1, 0), Kind: kind, Node: ids[random.Intn(6)], Dir: random.Intn(5) > 0, Parent: ids[random.Intn(6)], Name: fmt.Sprint(i), Manifest: fmt.Sprint(-i)})
		}
		random.Shuffle(len(list), func(i, j int) { list[i], list[j] = list[j], list[i] })
		checkAll(t, list...)
	}
}

// A line of directories, the deepest one first, each Make undone and done again under the next one.
func TestDeepTrees(t *testing.T) {
	s, p := move.New(), &plainState{}
	for i := range api.MaxOps - 1 {
		count := api.MaxOps - 1 - i
		parent := root()
		if count > 1 {
			parent = at(count-1, 0)
		}
		x := makeDir(at(count, 0), parent, "n")
		if s.Insert(x) != p.insert(x) {
			t.Fatalf("Insert(%v) is refused", x)
		}
	}
	checkSame(t, s, p)
	checkInsert(t, s, p, moveTo(at(api.MaxOps, 0), at(1, 0), at(api.MaxOps-1, 0), "x"))
	if chain := tree.Chain(s.Nodes(), at(api.MaxOps-1, 0)); len(chain) != api.MaxOps || chain[api.MaxOps-1] != root() {
		t.Errorf("the chain of the deepest one has %d stamps", len(chain))
	}
}

// R1 to R3

func TestAnswersAreTheCallers(t *testing.T) {
	s, p := filled(t, 6)
	checkInsert(t, s, p, moveTo(at(5, 0), at(2, 3), at(4, 3), "x"))
	nodes, list := s.Nodes(), s.Ops()
	nodes, list = nodes[:cap(nodes)], list[:cap(list)]
	for i := range nodes {
		nodes[i] = dir(at(-7, -7), at(-7, -7), "spoilt")
	}
	for i := range list {
		list[i] = drop(at(-7, -7), at(-7, -7))
	}
	checkSame(t, s, p)
	checkInsert(t, s, p, drop(at(3, 0), at(2, 3)))
	checkInsert(t, s, p, drop(at(99, 0), at(4, 3)))
}

// An answer stays as it is when more operations come.
func TestAnswersStay(t *testing.T) {
	s, p := filled(t, 6)
	nodes, list := s.Nodes(), s.Ops()
	kept, keptList := slices.Clone(nodes), slices.Clone(list)
	for _, x := range []api.Op{drop(at(3, 0), at(2, 3)), makeDir(at(1, 0), root(), "front"), moveTo(at(99, 0), at(4, 3), at(8, 3), "x")} {
		checkInsert(t, s, p, x)
	}
	if !slices.Equal(nodes, kept) || !slices.Equal(list, keptList) {
		t.Errorf("answers became %v and %v", nodes, list)
	}
}

func sharesText(a, b string) bool {
	return len(a) > 0 && len(b) > 0 && unsafe.StringData(a) == unsafe.StringData(b)
}

func TestTextsOfAnswersAreNewMemory(t *testing.T) {
	a := at(1, 0)
	given := []api.Op{makeFile(a, root(), "a", "made"), edit(at(2, 0), a, "edited"), moveTo(at(3, 0), a, root(), "moved")}
	s := checkAll(t, given...)
	var texts []string
	for _, x := range slices.Concat(given, s.Ops(), s.Ops()) {
		texts = append(texts, x.Name, x.Manifest)
	}
	for _, n := range slices.Concat(s.Nodes(), s.Nodes()) {
		texts = append(texts, n.Name, n.Manifest)
	}
	for i, text := range texts {
		for _, other := range texts[:i] {
			if sharesText(text, other) {
				t.Errorf("%q is shared", text)
			}
		}
	}
}

// A text that is a piece of the caller's memory is not kept as such.
func TestTextsAreNotKept(t *testing.T) {
	memory := []byte("manifest")
	a := at(1, 0)
	s := move.New()
	s.Insert(makeFile(a, root(), "a", unsafe.String(&memory[0], len(memory))))
	memory[0] = 'x'
	if got := s.Nodes(); !slices.Equal(got, []api.Node{file(a, root(), "a", "manifest")}) {
		t.Errorf("Nodes became %v with the caller's memory", got)
	}
}

func TestCallsAnswerAgain(t *testing.T) {
	s := checkAll(t, history(rand.New(rand.NewSource(6)), 80, 30)...)
	nodes, list, redone := s.Nodes(), s.Ops(), s.Redone()
	for range 20 {
		if !slices.Equal(s.Nodes(), nodes) || !slices.Equal(s.Ops(), list) || s.Redone() != redone {
			t.Fatal("a state answers another thing when it is asked again")
		}
	}
}

func TestStatesSideBySide(t *testing.T) {
	list := history(rand.New(rand.NewSource(7)), 60, 20)
	shared := checkAll(t, list...)
	want := shared.Nodes()
	var wait sync.WaitGroup
	for range 8 {
		wait.Go(func() {
			s := move.New()
			for _, x := range list {
				s.Insert(x)
			}
			if !slices.Equal(s.Nodes(), want) || !slices.Equal(shared.Nodes(), want) || len(shared.Ops()) != len(list) {
				t.Error("states side by side have other trees")
			}
		})
	}
	wait.Wait()
}

// FuzzInsert takes each five bytes as an operation: its stamp, its kind, its node, its parent and its device.
func FuzzInsert(f *testing.F) {
	f.Add([]byte{3, 2, 4, 2, 0, 1, 9, 2, 0, 0, 2, 9, 4, 0, 0})
	f.Add([]byte{3, 4, 2, 0, 0, 5, 9, 2, 0, 1, 0, 9, 4, 0, 0, 3, 1, 1, 1, 0})
	f.Fuzz(func(t *testing.T, data []byte) {
		s, p := move.New(), &plainState{}
		for part := range slices.Chunk(data, 5) {
			if len(part) < 5 || len(p.list) > 40 {
				continue
			}
			x := api.Op{Stamp: at(int(part[0]), int(part[4]&15)), Kind: int(part[1] & 7), Dir: part[1]&8 > 0, Node: at(int(part[2]>>1), int(part[2]&1)), Parent: at(int(part[3]>>1), int(part[3]&1)), Name: fmt.Sprint(len(p.list)), Manifest: fmt.Sprint(part)}
			checkInsert(t, s, p, x)
		}
	})
}
