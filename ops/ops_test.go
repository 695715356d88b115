package ops_test

import (
	"cmp"
	"math"
	"math/rand"
	"slices"
	"strings"
	"sync"
	"testing"
	"unsafe"

	"arbour/api"
	"arbour/codec"
	"arbour/ops"
)

const (
	maxCount = 1099511627776
	maxOps   = 400
)

func at(count, who int) api.Stamp { return api.Stamp{Count: count, Who: who} }

// madeDir, madeFile, moved, edited and dropped are a valid operation of each row of the table of kinds.
func madeDir() api.Op {
	return api.Op{Stamp: at(5, 2), Seq: 3, Kind: api.Make, Node: at(5, 2), Dir: true, Parent: at(4, 1), Name: "a"}
}

func madeFile() api.Op {
	return api.Op{Stamp: at(5, 2), Seq: 3, Kind: api.Make, Node: at(5, 2), Parent: at(4, 1), Name: "a.txt", Manifest: "m"}
}

func moved() api.Op {
	return api.Op{Stamp: at(5, 2), Seq: 3, Kind: api.Move, Node: at(3, 1), Parent: at(4, 1), Name: "b"}
}

func edited() api.Op {
	return api.Op{Stamp: at(5, 2), Seq: 3, Kind: api.Edit, Node: at(3, 1), Manifest: "n"}
}

func dropped() api.Op {
	return api.Op{Stamp: at(5, 2), Seq: 3, Kind: api.Drop, Node: at(3, 1)}
}

func oneOfEach() []api.Op {
	return []api.Op{madeDir(), madeFile(), moved(), edited(), dropped()}
}

// edit is an edit of some node: the plainest operation of a stamp and a sequence number.
func edit(count, who, seq int) api.Op {
	return api.Op{Stamp: at(count, who), Seq: seq, Kind: api.Edit, Node: at(1, 0), Manifest: "m"}
}

// with is an operation after a change.
func with(x api.Op, change func(*api.Op)) api.Op {
	change(&x)
	return x
}

// plainStamp tells whether a stamp is valid, by another way than clock.Right.
func plainStamp(s api.Stamp) bool {
	return 0 < s.Count && s.Count <= maxCount && 0 <= s.Who && s.Who <= 14
}

// plainName tells whether a text is a name, by another way than names.Right.
func plainName(s string) bool {
	if s == "" || len(s) > 24 || s == "." || s == ".." || strings.Trim(s, " ") != s {
		return false
	}
	return !strings.ContainsFunc(s, func(r rune) bool { return r < 32 || r > 126 || r == '/' })
}

// plainRight is the chapter's answer, column by column of its table.
func plainRight(x api.Op) api.Errno {
	isMake, isMove, isEdit, isDrop := x.Kind == 1, x.Kind == 2, x.Kind == 3, x.Kind == 4
	if !plainStamp(x.Stamp) || x.Seq <= 0 || x.Seq > maxCount {
		return api.ErrStamp
	}
	if (isMake || isMove) && !plainName(x.Name) {
		return api.ErrName
	}
	root := api.Stamp{}
	kind := isMake || isMove || isEdit || isDrop
	node := plainStamp(x.Node) && (!isMake || x.Node == x.Stamp)
	dir := !x.Dir || isMake
	parent := x.Parent == root || plainStamp(x.Parent) && (isMake && x.Parent != x.Node || isMove)
	name := x.Name == "" || isMake || isMove
	manifest := x.Manifest == "" || len(x.Manifest) <= 600 && (isEdit || isMake && !x.Dir)
	if kind && node && dir && parent && name && manifest {
		return api.OK
	}
	return api.ErrOp
}

// plainEncode is the bytes of an operation, whether or not it is valid, with a Dir of any number.
func plainEncode(x api.Op, dir int) string {
	var data strings.Builder
	for _, n := range []int{x.Stamp.Count, x.Stamp.Who, x.Seq, x.Kind, x.Node.Count, x.Node.Who, dir, x.Parent.Count, x.Parent.Who} {
		data.WriteString(codec.Num(n))
	}
	return data.String() + codec.Text(x.Name) + codec.Text(x.Manifest)
}

func dirNumber(x api.Op) int {
	if x.Dir {
		return 1
	}
	return 0
}

// plainAdd is the chapter's answer, one pass of the set for each of its sentences.
func plainAdd(set []api.Op, x api.Op) ([]api.Op, api.Errno) {
	same := func(y api.Op) bool { return y == x }
	taken := func(y api.Op) bool {
		return y.Stamp == x.Stamp || y.Stamp.Who == x.Stamp.Who && y.Seq == x.Seq
	}
	ahead := func(y api.Op) bool { return y.Stamp.Who == x.Stamp.Who && y.Seq == x.Seq-1 }
	wrong := func(y api.Op) bool {
		return ahead(y) && !plainLess(y.Stamp, x.Stamp) ||
			y.Stamp.Who == x.Stamp.Who && y.Seq > x.Seq && !plainLess(x.Stamp, y.Stamp)
	}
	switch {
	case plainRight(x) != api.OK:
		return nil, plainRight(x)
	case slices.ContainsFunc(set, same):
		return slices.Clone(set), api.OK
	case slices.ContainsFunc(set, taken):
		return nil, api.ErrTwice
	case x.Seq > 1 && !slices.ContainsFunc(set, ahead):
		return nil, api.ErrGap
	case slices.ContainsFunc(set, wrong):
		return nil, api.ErrStamp
	case len(set) > maxOps-1:
		return nil, api.ErrBig
	}
	place := slices.IndexFunc(set, func(y api.Op) bool { return plainLess(x.Stamp, y.Stamp) })
	if place < 0 {
		place = len(set)
	}
	return slices.Insert(slices.Clone(set), place, x), api.OK
}

func plainCompare(a, b api.Op) int {
	return cmp.Or(cmp.Compare(a.Stamp.Count, b.Stamp.Count), cmp.Compare(a.Stamp.Who, b.Stamp.Who))
}

func plainLess(a, b api.Stamp) bool { return plainCompare(api.Op{Stamp: a}, api.Op{Stamp: b}) < 0 }

// checkAdd holds Add against the plain one, and that the set stays as it is.
func checkAdd(t *testing.T, set []api.Op, x api.Op) {
	t.Helper()
	kept := slices.Clone(set)
	got, err := ops.Add(set, x)
	want, wantErr := plainAdd(kept, x)
	if err != wantErr || !slices.Equal(got, want) || err != api.OK && got != nil {
		t.Errorf("Add(%v, %v) = %v, %v, want %v, %v", kept, x, got, err, want, wantErr)
	}
	if !slices.Equal(set, kept) {
		t.Errorf("the set %v became %v", kept, set)
	}
}

// added is a set that operations were added to, one after the other.
func added(t *testing.T, set []api.Op, more ...api.Op) []api.Op {
	t.Helper()
	for _, x := range more {
		var err api.Errno
		if set, err = ops.Add(set, x); err != api.OK {
			t.Fatalf("Add of %v: %v", x, err)
		}
	}
	return set
}

// many is a set of so many operations of one device, with the even counts from 2.
func many(size, who int) []api.Op {
	var set []api.Op
	for i := range size {
		set = append(set, edit(2*i+2, who, i+1))
	}
	return set
}

// P6.1

func TestRightOfEachKind(t *testing.T) {
	for _, x := range oneOfEach() {
		if err := ops.Right(x); err != api.OK {
			t.Errorf("Right(%v) = %v", x, err)
		}
	}
}

func TestRightOfStampAndSeq(t *testing.T) {
	for _, x := range oneOfEach() {
		for s, want := range map[api.Stamp]api.Errno{
			at(1, 0):             api.OK,
			at(maxCount, 14):     api.OK,
			at(0, 0):             api.ErrStamp,
			at(0, 2):             api.ErrStamp,
			at(-1, 2):            api.ErrStamp,
			at(maxCount+1, 2):    api.ErrStamp,
			at(math.MaxInt, 2):   api.ErrStamp,
			at(math.MinInt, 2):   api.ErrStamp,
			at(5, -1):            api.ErrStamp,
			at(5, 15):            api.ErrStamp,
			at(5, math.MaxInt):   api.ErrStamp,
			at(maxCount+1, -100): api.ErrStamp,
		} {
			y := with(x, func(y *api.Op) { y.Stamp = s })
			if x.Kind == api.Make {
				y.Node = s
			}
			if err := ops.Right(y); err != want {
				t.Errorf("Right(%v) = %v, want %v", y, err, want)
			}
		}
		for seq, want := range map[int]api.Errno{
			1:             api.OK,
			2:             api.OK,
			1099511627775: api.OK,
			1099511627776: api.OK,
			1099511627777: api.ErrStamp,
			math.MaxInt:   api.ErrStamp,
			0:             api.ErrStamp,
			-1:            api.ErrStamp,
			math.MinInt:   api.ErrStamp,
		} {
			y := with(x, func(y *api.Op) { y.Seq = seq })
			if err := ops.Right(y); err != want {
				t.Errorf("Right(%v) = %v, want %v", y, err, want)
			}
		}
	}
}

// Each field of the table by itself: what it may be, and what it may not be.
func TestRightOfOneFieldAtATime(t *testing.T) {
	long, longest := strings.Repeat("m", 601), strings.Repeat("m", 600)
	for _, c := range []struct {
		of     func() api.Op
		change func(*api.Op)
		want   api.Errno
	}{
		{madeDir, func(x *api.Op) { x.Node = at(5, 3) }, api.ErrOp},
		{madeDir, func(x *api.Op) { x.Node = at(6, 2) }, api.ErrOp},
		{madeDir, func(x *api.Op) { x.Node = at(0, 0) }, api.ErrOp},
		{madeDir, func(x *api.Op) { x.Dir = false }, api.OK},
		{madeDir, func(x *api.Op) { x.Parent = at(0, 0) }, api.OK},
		{madeDir, func(x *api.Op) { x.Parent = at(5, 2) }, api.ErrOp},
		{madeDir, func(x *api.Op) { x.Parent = at(5, 1) }, api.OK},
		{madeDir, func(x *api.Op) { x.Parent = at(4, 2) }, api.OK},
		{madeDir, func(x *api.Op) { x.Parent = at(9, 9) }, api.OK},
		{madeDir, func(x *api.Op) { x.Parent = at(0, 1) }, api.ErrOp},
		{madeDir, func(x *api.Op) { x.Parent = at(maxCount, 14) }, api.OK},
		{madeDir, func(x *api.Op) { x.Parent = at(maxCount+1, 14) }, api.ErrOp},
		{madeDir, func(x *api.Op) { x.Parent = at(1, 15) }, api.ErrOp},
		{madeDir, func(x *api.Op) { x.Parent = at(1, -1) }, api.ErrOp},
		{madeDir, func(x *api.Op) { x.Name = "" }, api.ErrName},
		{madeDir, func(x *api.Op) { x.Manifest = "m" }, api.ErrOp},
		{madeDir, func(x *api.Op) { x.Manifest = longest }, api.ErrOp},
		{madeFile, func(x *api.Op) { x.Node = at(5, 1) }, api.ErrOp},
		{madeFile, func(x *api.Op) { x.Dir = true }, api.ErrOp},
		{madeFile, func(x *api.Op) { x.Parent = at(0, 0) }, api.OK},
		{madeFile, func(x *api.Op) { x.Parent = at(5, 2) }, api.ErrOp},
		{madeFile, func(x *api.Op) { x.Parent = at(0, -1) }, api.ErrOp},
		{madeFile, func(x *api.Op) { x.Name = "a/b" }, api.ErrName},
		{madeFile, func(x *api.Op) { x.Manifest = "" }, api.OK},
		{madeFile, func(x *api.Op) { x.Manifest = longest }, api.OK},
		{madeFile, func(x *api.Op) { x.Manifest = long }, api.ErrOp},
		{madeFile, func(x *api.Op) { x.Manifest = "\x00\xff\n" }, api.OK},
		{moved, func(x *api.Op) { x.Node = at(0, 0) }, api.ErrOp},
		{moved, func(x *api.Op) { x.Node = at(1, 15) }, api.ErrOp},
		{moved, func(x *api.Op) { x.Node = at(maxCount+1, 1) }, api.ErrOp},
		{moved, func(x *api.Op) { x.Node = at(maxCount, 14) }, api.OK},
		{moved, func(x *api.Op) { x.Node = at(5, 2) }, api.OK},
		{moved, func(x *api.Op) { x.Dir = true }, api.ErrOp},
		{moved, func(x *api.Op) { x.Parent = at(0, 0) }, api.OK},
		{moved, func(x *api.Op) { x.Parent = at(3, 1) }, api.OK},
		{moved, func(x *api.Op) { x.Parent = at(5, 2) }, api.OK},
		{moved, func(x *api.Op) { x.Parent = at(0, 3) }, api.ErrOp},
		{moved, func(x *api.Op) { x.Parent = at(-1, 0) }, api.ErrOp},
		{moved, func(x *api.Op) { x.Name = "" }, api.ErrName},
		{moved, func(x *api.Op) { x.Name = ".." }, api.ErrName},
		{moved, func(x *api.Op) { x.Manifest = "m" }, api.ErrOp},
		{edited, func(x *api.Op) { x.Node = at(0, 0) }, api.ErrOp},
		{edited, func(x *api.Op) { x.Node = at(1, -1) }, api.ErrOp},
		{edited, func(x *api.Op) { x.Node = at(5, 2) }, api.OK},
		{edited, func(x *api.Op) { x.Dir = true }, api.ErrOp},
		{edited, func(x *api.Op) { x.Parent = at(4, 1) }, api.ErrOp},
		{edited, func(x *api.Op) { x.Parent = at(0, 1) }, api.ErrOp},
		{edited, func(x *api.Op) { x.Parent = at(1, 0) }, api.ErrOp},
		{edited, func(x *api.Op) { x.Name = "a" }, api.ErrOp},
		{edited, func(x *api.Op) { x.Name = "/" }, api.ErrOp},
		{edited, func(x *api.Op) { x.Manifest = "" }, api.OK},
		{edited, func(x *api.Op) { x.Manifest = longest }, api.OK},
		{edited, func(x *api.Op) { x.Manifest = long }, api.ErrOp},
		{dropped, func(x *api.Op) { x.Node = at(0, 0) }, api.ErrOp},
		{dropped, func(x *api.Op) { x.Node = at(-3, 1) }, api.ErrOp},
		{dropped, func(x *api.Op) { x.Node = at(5, 2) }, api.OK},
		{dropped, func(x *api.Op) { x.Dir = true }, api.ErrOp},
		{dropped, func(x *api.Op) { x.Parent = at(4, 1) }, api.ErrOp},
		{dropped, func(x *api.Op) { x.Parent = at(0, 1) }, api.ErrOp},
		{dropped, func(x *api.Op) { x.Name = "a" }, api.ErrOp},
		{dropped, func(x *api.Op) { x.Name = " " }, api.ErrOp},
		{dropped, func(x *api.Op) { x.Manifest = "m" }, api.ErrOp},
	} {
		x := with(c.of(), c.change)
		if err := ops.Right(x); err != c.want {
			t.Errorf("Right(%v) = %v, want %v", x, err, c.want)
		}
	}
}

func TestRightOfKindsThatAreNone(t *testing.T) {
	for _, kind := range []int{math.MinInt, -1, 0, 5, 6, 256 + 1, 1<<32 + 3, math.MaxInt} {
		for _, x := range oneOfEach() {
			x.Kind = kind
			if err := ops.Right(x); err != api.ErrOp {
				t.Errorf("Right(%v) = %v", x, err)
			}
		}
	}
	if err := ops.Right(api.Op{}); err != api.ErrStamp {
		t.Errorf("Right of the zero operation = %v", err)
	}
}

func TestRightOfNames(t *testing.T) {
	for _, of := range []func() api.Op{madeDir, madeFile, moved} {
		for name, want := range map[string]api.Errno{
			"x": api.OK, "...": api.OK, "a b": api.OK, strings.Repeat("n", 24): api.OK,
			"": api.ErrName, ".": api.ErrName, "..": api.ErrName, " x": api.ErrName, "x ": api.ErrName, "x/y": api.ErrName,
			"/": api.ErrName, "x\n": api.ErrName, "\x00": api.ErrName, "\x7f": api.ErrName, "\u00e9": api.ErrName, strings.Repeat("n", 25): api.ErrName,
		} {
			x := with(of(), func(x *api.Op) { x.Name = name })
			if err := ops.Right(x); err != want {
				t.Errorf("Right(%v) = %v, want %v", x, err, want)
			}
		}
	}
}

// Two errors at once: the stamp's is told ahead of the name's, and that ahead of the operation's.
func TestRightTellsTheFirstError(t *testing.T) {
	for _, of := range []func() api.Op{madeDir, madeFile, moved} {
		x := with(of(), func(x *api.Op) { x.Seq, x.Name = 0, "" })
		if err := ops.Right(x); err != api.ErrStamp {
			t.Errorf("Right(%v) = %v, want ErrStamp", x, err)
		}
		x = with(of(), func(x *api.Op) { x.Stamp, x.Name = at(0, 0), "" })
		if err := ops.Right(x); err != api.ErrStamp {
			t.Errorf("Right(%v) = %v, want ErrStamp", x, err)
		}
		x = with(of(), func(x *api.Op) { x.Name, x.Node = ".", at(0, 0) })
		if err := ops.Right(x); err != api.ErrName {
			t.Errorf("Right(%v) = %v, want ErrName", x, err)
		}
	}
	for _, x := range oneOfEach() {
		x.Seq, x.Kind = maxCount+1, 7
		if err := ops.Right(x); err != api.ErrStamp {
			t.Errorf("Right(%v) = %v, want ErrStamp", x, err)
		}
		x.Seq, x.Name = 1, "."
		if err := ops.Right(x); err != api.ErrOp {
			t.Errorf("Right(%v) = %v, want ErrOp", x, err)
		}
	}
}

// eachOp calls use with operations of all values at which an answer changes, together with each other.
func eachOp(use func(api.Op)) {
	stamps := []api.Stamp{at(0, 0), at(5, 2), at(maxCount, 14), at(maxCount+1, 0), at(1, 15), at(0, 1)}
	manifests := []string{"", "m", strings.Repeat("m", 600), strings.Repeat("m", 601)}
	for _, stamp := range stamps {
		for _, seq := range []int{0, 1, maxCount, maxCount + 1} {
			for kind := range 6 {
				for _, node := range stamps {
					for _, parent := range stamps {
						for _, name := range []string{"", "a", "/", strings.Repeat("n", 24), strings.Repeat("n", 25)} {
							for _, manifest := range manifests {
								x := api.Op{Stamp: stamp, Seq: seq, Kind: kind, Node: node, Parent: parent, Name: name, Manifest: manifest}
								use(x)
								x.Dir = true
								use(x)
							}
						}
					}
				}
			}
		}
	}
}

func TestRightAtEdges(t *testing.T) {
	eachOp(func(x api.Op) {
		if err, want := ops.Right(x), plainRight(x); err != want {
			t.Fatalf("Right(%v) = %v, want %v", x, err, want)
		}
	})
}

// P6.2

func TestEncodeExamples(t *testing.T) {
	for _, c := range []struct {
		x    api.Op
		want string
	}{
		{madeDir(), "\x01\x05\x01\x02\x01\x03\x01\x01\x01\x05\x01\x02\x01\x01\x01\x04\x01\x01\x01\x01a\x00"},
		{madeFile(), "\x01\x05\x01\x02\x01\x03\x01\x01\x01\x05\x01\x02\x00\x01\x04\x01\x01\x01\x05a.txt\x01\x01m"},
		{moved(), "\x01\x05\x01\x02\x01\x03\x01\x02\x01\x03\x01\x01\x00\x01\x04\x01\x01\x01\x01b\x00"},
		{edited(), "\x01\x05\x01\x02\x01\x03\x01\x03\x01\x03\x01\x01\x00\x00\x00\x00\x01\x01n"},
		{dropped(), "\x01\x05\x01\x02\x01\x03\x01\x04\x01\x03\x01\x01\x00\x00\x00\x00\x00"},
		{api.Op{Stamp: at(256, 0), Seq: maxCount, Kind: 3, Node: at(1, 14), Manifest: strings.Repeat("\xff", 600)},
			"\x02\x01\x00\x00\x06\x01\x00\x00\x00\x00\x00\x01\x03\x01\x01\x01\x0e\x00\x00\x00\x00\x02\x02\x58" + strings.Repeat("\xff", 600)},
	} {
		if got, err := ops.Encode(c.x); got != c.want || err != api.OK {
			t.Errorf("Encode(%v) = %q, %v, want %q", c.x, got, err, c.want)
		}
		if got, err := ops.Decode(c.want); got != c.x || err != api.OK {
			t.Errorf("Decode(%q) = %v, %v, want %v", c.want, got, err, c.x)
		}
	}
}

// Encode answers as Right does, and Decode knows no bytes of what Right does not know.
func TestEncodeAndDecodeAtEdges(t *testing.T) {
	eachOp(func(x api.Op) {
		right := plainRight(x)
		plain := plainEncode(x, dirNumber(x))
		wantData, wantOp, wantErr := plain, x, api.OK
		if right != api.OK {
			wantData, wantOp, wantErr = "", api.Op{}, api.ErrBytes
		}
		if got, err := ops.Encode(x); got != wantData || err != right {
			t.Fatalf("Encode(%v) = %q, %v, want %q, %v", x, got, err, wantData, right)
		}
		if got, err := ops.Decode(plain); got != wantOp || err != wantErr {
			t.Fatalf("Decode(%q) = %v, %v, want %v, %v", plain, got, err, wantOp, wantErr)
		}
	})
}

func TestDecodeOfBytesThatEndTooEarly(t *testing.T) {
	if got, err := ops.Decode(""); got != (api.Op{}) || err != api.ErrEnd {
		t.Errorf("Decode of no bytes = %v, %v", got, err)
	}
	for _, x := range oneOfEach() {
		data, _ := ops.Encode(x)
		for i := range len(data) {
			if got, err := ops.Decode(data[:i]); got != (api.Op{}) || err != api.ErrEnd {
				t.Errorf("Decode(%q) = %v, %v, want ErrEnd", data[:i], got, err)
			}
		}
	}
}

func TestDecodeOfBytesThatGoOnTooLong(t *testing.T) {
	for _, x := range oneOfEach() {
		data, _ := ops.Encode(x)
		for _, more := range []string{"\x00", "\x09", "m", data} {
			if got, err := ops.Decode(data + more); got != (api.Op{}) || err != api.ErrMore {
				t.Errorf("Decode(%q) = %v, %v, want ErrMore", data+more, got, err)
			}
		}
	}
}

func TestDecodeOfDirsThatAreNone(t *testing.T) {
	for _, x := range oneOfEach() {
		for _, dir := range []int{2, 3, 256, 257, 1 << 32, math.MaxInt, -1, math.MinInt} {
			data := plainEncode(x, dir)
			if got, err := ops.Decode(data); got != (api.Op{}) || err != api.ErrBytes {
				t.Errorf("Decode(%q) = %v, %v, want ErrBytes", data, got, err)
			}
			// What is wrong with the bytes is told ahead of what is wrong with the operation.
			if _, err := ops.Decode(data + "\x00"); err != api.ErrMore {
				t.Errorf("Decode of more than %q: %v", data, err)
			}
			if _, err := ops.Decode(data[:len(data)-1]); err != api.ErrEnd {
				t.Errorf("Decode of less than %q: %v", data, err)
			}
		}
	}
}

func TestDecodeOfNumbersThatAreNone(t *testing.T) {
	for _, x := range oneOfEach() {
		data, _ := ops.Encode(x)
		for _, wrong := range []string{"\x09", "\xff", "\x01\x00", "\x02\x00\x05"} {
			if got, err := ops.Decode(wrong + data[2:]); got != (api.Op{}) || err != api.ErrBytes {
				t.Errorf("Decode(%q) = %v, %v, want ErrBytes", wrong+data[2:], got, err)
			}
		}
		negative := plainEncode(with(x, func(x *api.Op) { x.Seq = -1 }), dirNumber(x))
		if got, err := ops.Decode(negative); got != (api.Op{}) || err != api.ErrBytes {
			t.Errorf("Decode(%q) = %v, %v, want ErrBytes", negative, got, err)
		}
	}
}

// P6.3

func TestAddExamples(t *testing.T) {
	a1, a2, a3 := edit(2, 1, 1), edit(4, 1, 2), edit(6, 1, 3)
	b1, b2 := edit(4, 0, 1), edit(5, 0, 2)
	set := []api.Op{a1, b1, a2}
	for _, c := range []struct {
		set  []api.Op
		x    api.Op
		want []api.Op
		err  api.Errno
	}{
		{nil, a1, []api.Op{a1}, api.OK},
		{nil, a2, nil, api.ErrGap},
		{nil, edit(1, 0, maxCount), nil, api.ErrGap},
		{[]api.Op{}, b1, []api.Op{b1}, api.OK},
		{[]api.Op{a1}, a1, []api.Op{a1}, api.OK},
		{set, a1, set, api.OK},
		{set, b1, set, api.OK},
		{set, a2, set, api.OK},
		{set, a3, []api.Op{a1, b1, a2, a3}, api.OK},
		{set, b2, []api.Op{a1, b1, a2, b2}, api.OK},
		{set, edit(1, 14, 1), []api.Op{edit(1, 14, 1), a1, b1, a2}, api.OK},
		{set, edit(2, 0, 2), nil, api.ErrStamp},
		{set, edit(3, 9, 1), []api.Op{a1, edit(3, 9, 1), b1, a2}, api.OK},
		{set, edit(2, 0, 1), nil, api.ErrTwice},
		{[]api.Op{a1, a2}, b1, []api.Op{a1, b1, a2}, api.OK},
		{[]api.Op{a1, a2}, edit(4, 3, 1), []api.Op{a1, a2, edit(4, 3, 1)}, api.OK},
		{set, with(a2, func(x *api.Op) { x.Manifest = "other" }), nil, api.ErrTwice},
		{set, with(a2, func(x *api.Op) { x.Kind = api.Drop; x.Manifest = "" }), nil, api.ErrTwice},
		{set, with(a2, func(x *api.Op) { x.Seq = 3 }), nil, api.ErrTwice},
		{set, with(a2, func(x *api.Op) { x.Stamp.Count = 9 }), nil, api.ErrTwice},
		{set, edit(7, 1, 4), nil, api.ErrGap},
		{set, edit(7, 2, 2), nil, api.ErrGap},
		{set, edit(3, 1, 3), nil, api.ErrStamp},
		{set, edit(1, 1, 3), nil, api.ErrStamp},
		{[]api.Op{a1, a3}, edit(5, 1, 2), []api.Op{a1, edit(5, 1, 2), a3}, api.OK},
		{[]api.Op{a1, a3}, edit(7, 1, 2), nil, api.ErrStamp},
		{[]api.Op{a1, edit(9, 1, 7)}, edit(10, 1, 2), nil, api.ErrStamp},
		{[]api.Op{a3}, edit(7, 1, 1), nil, api.ErrStamp},
		{[]api.Op{a3}, edit(5, 1, 1), []api.Op{edit(5, 1, 1), a3}, api.OK},
		{[]api.Op{a3}, edit(5, 1, 2), nil, api.ErrGap},
	} {
		if got, err := ops.Add(c.set, c.x); err != c.err || !slices.Equal(got, c.want) {
			t.Errorf("Add(%v, %v) = %v, %v, want %v, %v", c.set, c.x, got, err, c.want, c.err)
		}
		checkAdd(t, c.set, c.x)
	}
}

func TestAddOfWhatIsNotValid(t *testing.T) {
	set := []api.Op{edit(2, 1, 1), edit(4, 1, 2)}
	for _, x := range []api.Op{{}, edit(0, 1, 3), edit(5, 15, 1), edit(5, 1, 0), edit(5, 1, maxCount+1),
		with(moved(), func(x *api.Op) { x.Name = "" }), with(edited(), func(x *api.Op) { x.Name = "a" }), with(dropped(), func(x *api.Op) { x.Kind = 5 })} {
		want := plainRight(x)
		if got, err := ops.Add(set, x); err != want || want == api.OK || got != nil {
			t.Errorf("Add of %v = %v, %v, want %v", x, got, err, want)
		}
		// It is no matter that it is an element, or that the set is full.
		if got, err := ops.Add([]api.Op{x}, x); err != want || got != nil {
			t.Errorf("Add of %v to itself = %v, %v, want %v", x, got, err, want)
		}
		if got, err := ops.Add(many(maxOps, 1), x); err != want || got != nil {
			t.Errorf("Add of %v to a full set = %v, %v, want %v", x, got, err, want)
		}
	}
}

// Two errors at once, in the order of the chapter.
func TestAddTellsTheFirstError(t *testing.T) {
	set := []api.Op{edit(2, 1, 1), edit(4, 1, 2), edit(8, 0, 1)}
	full := many(maxOps, 1)
	for _, c := range []struct {
		set  []api.Op
		x    api.Op
		want api.Errno
	}{
		{set, edit(4, 1, 9), api.ErrTwice},
		{set, edit(2, 1, 2), api.ErrTwice},
		{set, edit(1, 1, 2), api.ErrTwice},
		{[]api.Op{edit(4, 1, 2)}, edit(5, 1, 2), api.ErrTwice},
		{[]api.Op{edit(4, 1, 3)}, edit(5, 1, 2), api.ErrGap},
		{full, edit(2, 1, 9), api.ErrTwice},
		{full, edit(801, 1, 402), api.ErrGap},
		{full, edit(801, 0, 2), api.ErrGap},
		{full, edit(1, 1, 401), api.ErrStamp},
		{full, edit(801, 1, 401), api.ErrBig},
		{full, edit(801, 0, 1), api.ErrBig},
		{full, edit(1, 0, 1), api.ErrBig},
		{append(many(maxOps, 1), edit(900, 2, 1)), edit(801, 1, 401), api.ErrBig},
	} {
		if got, err := ops.Add(c.set, c.x); err != c.want || got != nil {
			t.Errorf("Add of %v to %d operations = %v, %v, want %v", c.x, len(c.set), got, err, c.want)
		}
		checkAdd(t, c.set, c.x)
	}
}

func TestAddToSetsOfManyOperations(t *testing.T) {
	for _, size := range []int{0, 1, 2, maxOps - 1, maxOps, maxOps + 1} {
		set := many(size, 7)
		want := api.OK
		if size >= maxOps {
			want = api.ErrBig
		}
		for place := range size + 1 {
			// Behind the operation of the even count below, by the device's number or by the count.
			for _, x := range []api.Op{edit(2*place+1, 3, 1), edit(max(2*place, 1), 8, 1)} {
				got, err := ops.Add(set, x)
				if err != want || err == api.OK && (len(got) != size+1 || got[place] != x) {
					t.Fatalf("Add of %v to %d operations: %d, %v", x, size, len(got), err)
				}
				checkAdd(t, set, x)
			}
		}
		for _, x := range set {
			checkAdd(t, set, x)
			if got, err := ops.Add(set, x); err != api.OK || !slices.Equal(got, set) {
				t.Fatalf("Add of the element %v to %d operations: %v", x, size, err)
			}
		}
		checkAdd(t, set, edit(2*size+2, 7, size+1))
	}
}

// Each field makes an operation another one.
func TestAddTellsOperationsApartByEachField(t *testing.T) {
	for _, x := range oneOfEach() {
		x.Seq = 1
		set := []api.Op{x}
		for i, change := range []func(*api.Op){
			func(y *api.Op) { y.Node = at(2, 2) },
			func(y *api.Op) { y.Parent = at(2, 2) },
			func(y *api.Op) { y.Parent = at(0, 0) },
			func(y *api.Op) { y.Name = "other" },
			func(y *api.Op) { y.Manifest = "other" },
			func(y *api.Op) { y.Manifest = "" },
			func(y *api.Op) { y.Dir = !y.Dir },
			func(y *api.Op) { *y = edit(5, 2, 1) },
			func(y *api.Op) { *y = edit(5, 2, 2) },
			func(y *api.Op) { *y = edit(6, 2, 1) },
		} {
			y := with(x, change)
			if plainRight(y) != api.OK || y == x {
				continue
			}
			if got, err := ops.Add(set, y); err != api.ErrTwice || got != nil {
				t.Errorf("%d: Add(%v, %v) = %v, %v, want ErrTwice", i, set, y, got, err)
			}
		}
	}
}

// fewOps is operations of two devices, of few counts and sequence numbers.
func fewOps() []api.Op {
	var few []api.Op
	for count := 1; count <= 3; count++ {
		for who := range 2 {
			for seq := 1; seq <= 3; seq++ {
				few = append(few, edit(count, who, seq))
			}
		}
	}
	return few
}

// eachSet calls use with all sorted sets of up to so many of the operations.
func eachSet(few []api.Op, size int, set []api.Op, use func([]api.Op)) {
	use(set)
	if size == 0 {
		return
	}
	for i, x := range few {
		if len(set) == 0 || plainLess(set[len(set)-1].Stamp, x.Stamp) {
			eachSet(few[i+1:], size-1, append(slices.Clone(set), x), use)
		}
	}
}

func TestAddToAllSmallSets(t *testing.T) {
	few := fewOps()
	eachSet(few, 4, nil, func(set []api.Op) {
		for _, x := range few {
			checkAdd(t, set, x)
			x.Manifest = "other"
			checkAdd(t, set, x)
		}
	})
}

// Lists that are no sets, of operations that are not valid among them.
func TestAddToWhatIsNoSet(t *testing.T) {
	random := rand.New(rand.NewSource(6))
	seqs := []int{math.MinInt, -1, 0, 1, 2, 3, maxCount, math.MaxInt}
	counts := []int{math.MinInt, -1, 0, 1, 2, 3, 4, maxCount, math.MaxInt}
	for range 20000 {
		var list []api.Op
		for range random.Intn(6) {
			list = append(list, edit(counts[random.Intn(len(counts))], random.Intn(3)-1, seqs[random.Intn(len(seqs))]))
		}
		checkAdd(t, list, edit(counts[random.Intn(len(counts))], random.Intn(2), seqs[random.Intn(len(seqs))]))
	}
}

// P6.4

func TestVectorExamples(t *testing.T) {
	for _, c := range []struct {
		set  []api.Op
		want []int
	}{
		{nil, nil},
		{[]api.Op{}, nil},
		{[]api.Op{edit(1, 0, 1)}, []int{1}},
		{[]api.Op{edit(1, 3, 1)}, []int{0, 0, 0, 1}},
		{[]api.Op{edit(1, 14, 1)}, []int{0, 0, 0, 0, 0, 0, 0, 0, 0, 0, 0, 0, 0, 0, 1}},
		{[]api.Op{edit(1, 2, 1), edit(2, 0, 1), edit(3, 2, 2)}, []int{1, 0, 2}},
		{[]api.Op{edit(1, 2, 9), edit(2, 0, 0), edit(3, 2, -7)}, []int{1, 0, 2}},
		{[]api.Op{edit(1, 1, 1), edit(1, 1, 1)}, []int{0, 2}},
		{[]api.Op{edit(1, -1, 1)}, nil},
		{[]api.Op{edit(1, 15, 1)}, nil},
		{[]api.Op{edit(1, math.MinInt, 1), edit(1, math.MaxInt, 1), edit(1, 16, 1)}, nil},
		{[]api.Op{edit(1, -1, 1), edit(2, 1, 1), edit(3, 15, 1), edit(4, 1, 2)}, []int{0, 2}},
		{[]api.Op{{}}, []int{1}},
	} {
		if got := ops.Vector(c.set...); !slices.Equal(got, c.want) {
			t.Errorf("Vector(%v) = %v, want %v", c.set, got, c.want)
		}
	}
}

func TestVectorOfEachDevice(t *testing.T) {
	var set []api.Op
	for who := -3; who < 20; who++ {
		for i := range who + 4 {
			set = append(set, edit(i+1, who, i+1))
		}
	}
	if got, want := ops.Vector(set...), []int{4, 5, 6, 7, 8, 9, 10, 11, 12, 13, 14, 15, 16, 17, 18}; !slices.Equal(got, want) {
		t.Errorf("Vector = %v, want %v", got, want)
	}
}

func TestSinceExamples(t *testing.T) {
	a1, a2, b1, a3, b2 := edit(1, 0, 1), edit(2, 0, 2), edit(2, 1, 1), edit(4, 0, 3), edit(5, 1, 2)
	low, high, none := edit(6, -1, 1), edit(6, 15, 1), edit(7, 0, 0)
	set := []api.Op{a1, a2, b1, a3, b2}
	for _, c := range []struct {
		set    []api.Op
		vector []int
		want   []api.Op
	}{
		{nil, nil, nil},
		{nil, []int{1}, nil},
		{[]api.Op{}, []int{}, nil},
		{set, nil, set},
		{set, []int{0, 0}, set},
		{set, []int{-1, math.MinInt}, set},
		{set, []int{1}, []api.Op{a2, b1, a3, b2}},
		{set, []int{2}, []api.Op{b1, a3, b2}},
		{set, []int{3, 2}, nil},
		{set, []int{0, 1}, []api.Op{a1, a2, a3, b2}},
		{set, []int{-5, 2}, []api.Op{a1, a2, a3}},
		{set, []int{2, 1, 9, 9, 9, 9, 9, 9, 9, 9, 9, 9, 9, 9, 9, 9, 9, 9, 9}, []api.Op{a3, b2}},
		{set, []int{math.MaxInt, 0}, []api.Op{b1, b2}},
		{[]api.Op{low, high, none, a1}, nil, []api.Op{low, high, a1}},
		{[]api.Op{low, high, none, a1}, []int{-1}, []api.Op{low, high, a1}},
		{[]api.Op{low, high, none, a1}, []int{1}, []api.Op{low, high}},
		{[]api.Op{b2, a3, b1, a2, a1}, []int{1, 1}, []api.Op{b2, a3, a2}},
		{[]api.Op{a1, a1}, nil, []api.Op{a1, a1}},
		{[]api.Op{edit(1, math.MaxInt, 1), edit(1, math.MinInt, 1)}, []int{9}, []api.Op{edit(1, math.MaxInt, 1), edit(1, math.MinInt, 1)}},
	} {
		if got := ops.Since(c.set, c.vector); !slices.Equal(got, c.want) {
			t.Errorf("Since(%v, %v) = %v, want %v", c.set, c.vector, got, c.want)
		}
	}
}

// P6.5

func TestDecodeInvertsEncode(t *testing.T) {
	known := map[string]api.Op{}
	eachOp(func(x api.Op) {
		data, err := ops.Encode(x)
		if err != api.OK {
			return
		}
		if y, known := known[data]; known {
			t.Fatalf("%v and %v are both %q", x, y, data)
		}
		known[data] = x
		if got, err := ops.Decode(data); got != x || err != api.OK {
			t.Fatalf("Decode(Encode(%v)) = %v, %v", x, got, err)
		}
	})
}

// history is operations that devices performed one after the other, each device's with increasing stamps.
func history(random *rand.Rand, size int) []api.Op {
	seqs := make([]int, 15)
	var all []api.Op
	for count := 1; len(all) < size; count++ {
		who := random.Intn(15)
		seqs[who]++
		x := edit(count/2+1, who, seqs[who])
		if slices.ContainsFunc(all, func(y api.Op) bool { return y.Stamp == x.Stamp }) {
			seqs[who]--
			continue
		}
		all = append(all, x)
	}
	return all
}

// addedInAnyOrder is the set of all, each added as soon as no one ahead of it is missing.
func addedInAnyOrder(t *testing.T, random *rand.Rand, all []api.Op) []api.Op {
	t.Helper()
	var set []api.Op
	for left := slices.Clone(all); len(left) > 0; {
		i := random.Intn(len(left))
		more, err := ops.Add(set, left[i])
		switch err {
		case api.OK:
			set = more
			left = slices.Delete(left, i, i+1)
		case api.ErrGap:
		default:
			t.Fatalf("Add(%v, %v): %v", set, left[i], err)
		}
	}
	return set
}

func TestTheOrderOfAddingDoesNotMatter(t *testing.T) {
	random := rand.New(rand.NewSource(7))
	for _, size := range []int{1, 2, 5, 40, 400} {
		all := history(random, size)
		want := slices.SortedFunc(slices.Values(all), plainCompare)
		for range 5 {
			set := addedInAnyOrder(t, random, all)
			if !slices.Equal(set, want) {
				t.Fatalf("the set is %v, want %v", set, want)
			}
			checkBuilt(t, set)
		}
	}
}

// checkBuilt holds that a set is sorted, and has of each device what its vector tells.
func checkBuilt(t *testing.T, set []api.Op) {
	t.Helper()
	for i := 1; i < len(set); i++ {
		if !plainLess(set[i-1].Stamp, set[i].Stamp) {
			t.Errorf("%v stands ahead of %v", set[i-1], set[i])
		}
	}
	for who, n := range ops.Vector(set...) {
		// The stamps of a device increase with its sequence numbers, so these stand in order.
		seq := 0
		for _, x := range set {
			if x.Stamp.Who == who {
				seq++
				if x.Seq != seq {
					t.Errorf("device %d: Seq %d, want %d", who, x.Seq, seq)
				}
			}
		}
		if seq != n {
			t.Errorf("device %d has %d operations, and its number is %d", who, seq, n)
		}
	}
	if left := ops.Since(set, ops.Vector(set...)); len(left) != 0 {
		t.Errorf("above its own vector the set has %v", left)
	}
}

func TestAddingTwiceIsAddingOnce(t *testing.T) {
	random := rand.New(rand.NewSource(8))
	var once, twice []api.Op
	for _, x := range history(random, 60) {
		once = added(t, once, x)
		twice = added(t, twice, x, x)
		twice = added(t, twice, twice[random.Intn(len(twice))])
		if !slices.Equal(once, twice) {
			t.Fatalf("once: %v, twice: %v", once, twice)
		}
	}
}

// What lies above another one's vector is what the other one lacks.
func TestSinceCompletesAnotherSet(t *testing.T) {
	random := rand.New(rand.NewSource(9))
	all := history(random, 80)
	full := added(t, nil, all...)
	for size := range len(all) + 1 {
		part := added(t, nil, all[:size]...)
		missing := ops.Since(full, ops.Vector(part...))
		if len(missing) != len(all)-size {
			t.Fatalf("%d of %d operations are above the vector of %d", len(missing), len(all), size)
		}
		if got := added(t, part, missing...); !slices.Equal(got, full) {
			t.Fatalf("the set is %v, want %v", got, full)
		}
	}
}

// R1 to R3

// spare is a set with more memory behind it, which keeps what is written there.
func spare(set ...api.Op) []api.Op {
	whole := append(slices.Clone(set), edit(70, 7, 7), edit(71, 7, 7))
	return whole[:len(set)]
}

func TestArgumentsStayAsTheyAre(t *testing.T) {
	set := spare(edit(2, 1, 1), edit(4, 1, 2))
	whole := slices.Clone(set[:4])
	vector := []int{-1, 1, -2, 7}
	for _, x := range []api.Op{edit(1, 0, 1), edit(3, 0, 1), edit(5, 0, 1), edit(2, 1, 1), edit(2, 1, 2), edit(7, 1, 9), {}} {
		ops.Add(set, x)
	}
	ops.Vector(set...)
	ops.Since(set, vector[:3])
	if !slices.Equal(set[:4], whole) || !slices.Equal(vector, []int{-1, 1, -2, 7}) {
		t.Errorf("the arguments became %v and %v", set[:4], vector)
	}
}

func TestAnswersAreNewMemory(t *testing.T) {
	set := spare(edit(2, 1, 1), edit(4, 1, 2))
	kept := slices.Clone(set[:4])
	for _, x := range []api.Op{edit(1, 0, 1), edit(3, 0, 1), edit(5, 0, 1), edit(4, 1, 2)} {
		got, _ := ops.Add(set, x)
		want := slices.Clone(got)
		spoil(got)
		if !slices.Equal(set[:4], kept) {
			t.Fatalf("the set became %v with Add's answer", set[:4])
		}
		again, _ := ops.Add(set, x)
		if !slices.Equal(again, want) {
			t.Errorf("Add = %v, want %v", again, want)
		}
	}
	for _, vector := range [][]int{nil, {0, 1}, {9, 9}} {
		spoil(ops.Since(set, vector))
	}
	if !slices.Equal(set[:4], kept) {
		t.Errorf("the set became %v with Since's answer", set[:4])
	}
	first, second := ops.Vector(set...), ops.Vector(set...)
	first[1] = 99
	if !slices.Equal(second, []int{0, 2}) {
		t.Errorf("Vector's answer became %v with another one", second)
	}
}

// spoil writes all over a list, beyond its length also.
func spoil(set []api.Op) {
	set = set[:cap(set)]
	for i := range set {
		set[i] = api.Op{Seq: -77}
	}
}

// sharesText tells whether texts are the same memory.
func sharesText(a, b string) bool {
	return len(a) > 0 && len(b) > 0 && unsafe.StringData(a) == unsafe.StringData(b)
}

func TestTextsOfAnswersAreNewMemory(t *testing.T) {
	a, b := madeFile(), moved()
	a.Seq, b.Seq, b.Stamp = 1, 2, at(6, 2)
	set := added(t, nil, a)
	check := func(what string, got []api.Op, from ...api.Op) {
		t.Helper()
		for _, x := range got {
			for _, y := range from {
				if sharesText(x.Name, y.Name) || sharesText(x.Manifest, y.Manifest) {
					t.Errorf("%s shares a text with %v", what, y)
				}
			}
		}
	}
	check("Add to no set", set, a)
	both, _ := ops.Add(set, b)
	check("Add", both, set[0], b)
	again, _ := ops.Add(both, b)
	check("Add of an element", again, both[0], both[1], b)
	check("Since", ops.Since(both, nil), both...)
	data, _ := ops.Encode(a)
	got, _ := ops.Decode(data)
	if sharesText(got.Manifest, data[len(data)-1:]) {
		t.Error("Decode shares its manifest with the bytes")
	}
}

func TestAnswersHangOnTheArgumentsAlone(t *testing.T) {
	few := fewOps()
	var wait sync.WaitGroup
	for range 8 {
		wait.Go(func() {
			eachSet(few, 3, nil, func(set []api.Op) {
				for _, x := range few {
					checkAdd(t, set, x)
				}
			})
		})
	}
	wait.Wait()
}

// Ways

func TestOperationsAreVariadic(t *testing.T) {
	var vector func(...api.Op) []int = ops.Vector
	if got := vector(edit(1, 1, 1), edit(2, 0, 1), edit(3, 1, 2)); !slices.Equal(got, []int{1, 2}) {
		t.Errorf("Vector of three operations = %v", got)
	}
}

func FuzzDecode(f *testing.F) {
	for _, x := range oneOfEach() {
		f.Add(plainEncode(x, dirNumber(x)))
		f.Add(plainEncode(x, 2))
	}
	f.Fuzz(func(t *testing.T, data string) {
		x, err := ops.Decode(data)
		if err != api.OK {
			if x != (api.Op{}) || err != api.ErrEnd && err != api.ErrBytes && err != api.ErrMore {
				t.Errorf("Decode(%q) = %v, %v", data, x, err)
			}
			return
		}
		if again, err := ops.Encode(x); again != data || err != api.OK {
			t.Errorf("Encode(%v) = %q, %v, want %q", x, again, err, data)
		}
	})
}

func FuzzRight(f *testing.F) {
	f.Add(5, 2, 3, 1, 5, 2, false, 4, 1, "a.txt", "m")
	f.Add(5, 2, 3, 3, 3, 1, false, 0, 0, "", "n")
	f.Fuzz(func(t *testing.T, count, who, seq, kind, nodeCount, nodeWho int, dir bool, parentCount, parentWho int, name, manifest string) {
		x := api.Op{Stamp: at(count, who), Seq: seq, Kind: kind, Node: at(nodeCount, nodeWho), Dir: dir, Parent: at(parentCount, parentWho), Name: name, Manifest: manifest}
		want := plainRight(x)
		if err := ops.Right(x); err != want {
			t.Errorf("Right(%v) = %v, want %v", x, err, want)
		}
		checkAdd(t, []api.Op{edit(2, 0, 1), edit(4, 0, 2)}, x)
	})
}

// FuzzAdd takes each byte as a count, a device and a sequence number: an edit that is added.
func FuzzAdd(f *testing.F) {
	f.Add([]byte{0o10, 0o21, 0o11, 0o132})
	f.Fuzz(func(t *testing.T, data []byte) {
		var set []api.Op
		for _, b := range data {
			x := edit(int(b>>4), int(b>>3&1), int(b&7))
			checkAdd(t, set, x)
			if more, err := ops.Add(set, x); err == api.OK {
				set = more
			}
		}
		checkBuilt(t, set)
	})
}
