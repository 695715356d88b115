package clock_test

import (
	"cmp"
	"math"
	"math/rand"
	"slices"
	"sync"
	"testing"

	"arbour/api"
	"arbour/clock"
)

const maxCount = 1099511627776

// edgeStamps is stamps of all counts and devices at which an answer changes, those that are not valid among them.
func edgeStamps() []api.Stamp {
	var stamps []api.Stamp
	for _, count := range []int{math.MinInt, -maxCount, -1, 0, 1, 2, maxCount - 1, maxCount, maxCount + 1, math.MaxInt} {
		for _, who := range []int{math.MinInt, -1, 0, 1, 13, 14, 15, math.MaxInt} {
			stamps = append(stamps, api.Stamp{Count: count, Who: who})
		}
	}
	return stamps
}

// shortVectors is all vectors of up to so many of the numbers.
func shortVectors(size int, numbers ...int) [][]int {
	vectors := [][]int{{}}
	shorter := vectors
	for range size {
		var longer [][]int
		for _, v := range shorter {
			for _, n := range numbers {
				longer = append(longer, append(slices.Clone(v), n))
			}
		}
		vectors = append(vectors, longer...)
		shorter = longer
	}
	return vectors
}

// plainNumber is what counts of a vector at an index.
func plainNumber(v []int, i int) int {
	if i < len(v) && v[i] > 0 {
		return v[i]
	}
	return 0
}

// plainWidth is how many indexes there are of vectors.
func plainWidth(vectors ...[]int) int {
	width := 0
	for _, v := range vectors {
		width = max(width, len(v))
	}
	return width
}

// plainColumns is what pick says of the numbers at each index, without the zeros at the end.
func plainColumns(pick func([]int) int, vectors [][]int) []int {
	out := []int{}
	for i := range plainWidth(vectors...) {
		var column []int
		for _, v := range vectors {
			column = append(column, plainNumber(v, i))
		}
		out = append(out, pick(column))
	}
	last := 0
	for i, n := range out {
		if n != 0 {
			last = i + 1
		}
	}
	return out[:last]
}

func plainJoin(vectors ...[]int) []int { return plainColumns(slices.Max[[]int], vectors) }

func plainMeet(vectors ...[]int) []int { return plainColumns(slices.Min[[]int], vectors) }

func plainCovers(a, b []int) bool {
	for i := range plainWidth(a, b) {
		if plainNumber(a, i) < plainNumber(b, i) {
			return false
		}
	}
	return true
}

// checkVectors holds Join and Meet of vectors against the plain ones, and that the vectors stay as they are.
func checkVectors(t *testing.T, vectors ...[]int) {
	t.Helper()
	var kept [][]int
	for _, v := range vectors {
		kept = append(kept, slices.Clone(v))
	}
	if got, want := clock.Join(vectors...), plainJoin(vectors...); !slices.Equal(got, want) {
		t.Errorf("Join(%v) = %v, want %v", kept, got, want)
	}
	if got, want := clock.Meet(vectors...), plainMeet(vectors...); !slices.Equal(got, want) {
		t.Errorf("Meet(%v) = %v, want %v", kept, got, want)
	}
	if !slices.EqualFunc(vectors, kept, slices.Equal[[]int]) {
		t.Errorf("%v became %v", kept, vectors)
	}
}

// P4.1

func TestRightExamples(t *testing.T) {
	for s, want := range map[api.Stamp]api.Errno{
		{Count: 1, Who: 0}:             api.OK,
		{Count: 1, Who: 14}:            api.OK,
		{Count: 7, Who: 3}:             api.OK,
		{Count: maxCount, Who: 0}:      api.OK,
		{Count: maxCount, Who: 14}:     api.OK,
		{Count: 0, Who: 0}:             api.ErrStamp,
		{Count: 0, Who: 14}:            api.ErrStamp,
		{Count: -1, Who: 0}:            api.ErrStamp,
		{Count: math.MinInt, Who: 0}:   api.ErrStamp,
		{Count: maxCount + 1, Who: 0}:  api.ErrStamp,
		{Count: math.MaxInt, Who: 0}:   api.ErrStamp,
		{Count: 1, Who: -1}:            api.ErrStamp,
		{Count: 1, Who: 15}:            api.ErrStamp,
		{Count: 1, Who: math.MinInt}:   api.ErrStamp,
		{Count: 1, Who: math.MaxInt}:   api.ErrStamp,
		{Count: 0, Who: 15}:            api.ErrStamp,
		{Count: maxCount + 1, Who: -1}: api.ErrStamp,
	} {
		if got := clock.Right(s); got != want {
			t.Errorf("Right(%v) = %v, want %v", s, got, want)
		}
	}
}

func TestRightAtEdges(t *testing.T) {
	right := 0
	for _, s := range edgeStamps() {
		if clock.Right(s) == api.OK {
			right++
		}
	}
	// The counts 1, 2, MaxCount - 1 and MaxCount of the devices 0, 1, 13 and 14.
	if right != 16 {
		t.Errorf("%d stamps are right, want 16", right)
	}
}

func TestRightKnowsEachDevice(t *testing.T) {
	for who := -20; who <= 40; who++ {
		want := api.ErrStamp
		if who >= 0 && who <= 14 {
			want = api.OK
		}
		if got := clock.Right(api.Stamp{Count: 5, Who: who}); got != want {
			t.Errorf("Right of device %d = %v, want %v", who, got, want)
		}
	}
}

func TestLessExamples(t *testing.T) {
	for _, c := range []struct {
		a, b api.Stamp
		want bool
	}{
		{api.Stamp{Count: 1, Who: 0}, api.Stamp{Count: 2, Who: 0}, true},
		{api.Stamp{Count: 2, Who: 0}, api.Stamp{Count: 1, Who: 0}, false},
		{api.Stamp{Count: 1, Who: 14}, api.Stamp{Count: 2, Who: 0}, true},
		{api.Stamp{Count: 2, Who: 0}, api.Stamp{Count: 1, Who: 14}, false},
		{api.Stamp{Count: 3, Who: 1}, api.Stamp{Count: 3, Who: 2}, true},
		{api.Stamp{Count: 3, Who: 2}, api.Stamp{Count: 3, Who: 1}, false},
		{api.Stamp{Count: 3, Who: 2}, api.Stamp{Count: 3, Who: 2}, false},
		{api.Stamp{}, api.Stamp{}, false},
		{api.Stamp{Count: -1, Who: 20}, api.Stamp{}, true},
		{api.Stamp{Who: -1}, api.Stamp{}, true},
		{api.Stamp{Count: math.MinInt}, api.Stamp{Count: math.MaxInt}, true},
		{api.Stamp{Count: math.MaxInt}, api.Stamp{Count: math.MinInt}, false},
		{api.Stamp{Who: math.MinInt}, api.Stamp{Who: math.MaxInt}, true},
		{api.Stamp{Who: math.MaxInt}, api.Stamp{Who: math.MinInt}, false},
	} {
		if got := clock.Less(c.a, c.b); got != c.want {
			t.Errorf("Less(%v, %v) = %v, want %v", c.a, c.b, got, c.want)
		}
	}
}

func TestLessAtEdges(t *testing.T) {
	for _, a := range edgeStamps() {
		for _, b := range edgeStamps() {
			want := cmp.Or(cmp.Compare(a.Count, b.Count), cmp.Compare(a.Who, b.Who)) < 0
			if got := clock.Less(a, b); got != want {
				t.Errorf("Less(%v, %v) = %v, want %v", a, b, got, want)
			}
		}
	}
}

// P4.2

func TestNextExamples(t *testing.T) {
	for _, c := range []struct {
		who  int
		seen []api.Stamp
		want api.Stamp
		err  api.Errno
	}{
		{2, []api.Stamp{{Count: 7, Who: 0}, {Count: 3, Who: 2}}, api.Stamp{Count: 8, Who: 2}, api.OK},
		{2, []api.Stamp{{Count: 3, Who: 2}, {Count: 7, Who: 0}}, api.Stamp{Count: 8, Who: 2}, api.OK},
		{0, nil, api.Stamp{Count: 1}, api.OK},
		{14, []api.Stamp{}, api.Stamp{Count: 1, Who: 14}, api.OK},
		{3, []api.Stamp{{}}, api.Stamp{Count: 1, Who: 3}, api.OK},
		{3, []api.Stamp{{Count: -1}}, api.Stamp{Count: 1, Who: 3}, api.OK},
		{3, []api.Stamp{{Count: math.MinInt}, {Count: -7}}, api.Stamp{Count: 1, Who: 3}, api.OK},
		{3, []api.Stamp{{Count: -9}, {Count: 1, Who: 14}}, api.Stamp{Count: 2, Who: 3}, api.OK},
		{3, []api.Stamp{{Count: 5, Who: -1}, {Count: 4, Who: 99}}, api.Stamp{Count: 6, Who: 3}, api.OK},
		{0, []api.Stamp{{Count: maxCount - 1}}, api.Stamp{Count: maxCount}, api.OK},
		{0, []api.Stamp{{Count: maxCount}}, api.Stamp{}, api.ErrCount},
		{0, []api.Stamp{{Count: maxCount + 1}}, api.Stamp{}, api.ErrCount},
		{0, []api.Stamp{{Count: math.MaxInt}}, api.Stamp{}, api.ErrCount},
		{14, []api.Stamp{{Count: 1}, {Count: maxCount, Who: 3}, {Count: 2}}, api.Stamp{}, api.ErrCount},
		{14, []api.Stamp{{Count: math.MaxInt}, {Count: 2}}, api.Stamp{}, api.ErrCount},
		{-1, nil, api.Stamp{}, api.ErrArg},
		{15, nil, api.Stamp{}, api.ErrArg},
		{math.MinInt, nil, api.Stamp{}, api.ErrArg},
		{math.MaxInt, nil, api.Stamp{}, api.ErrArg},
		{15, []api.Stamp{{Count: 7}}, api.Stamp{}, api.ErrArg},
		{-1, []api.Stamp{{Count: maxCount}}, api.Stamp{}, api.ErrArg},
		{15, []api.Stamp{{Count: math.MaxInt}}, api.Stamp{}, api.ErrArg},
	} {
		if got, err := clock.Next(c.who, c.seen...); got != c.want || err != c.err {
			t.Errorf("Next(%d, %v) = %v, %v, want %v, %v", c.who, c.seen, got, err, c.want, c.err)
		}
	}
}

// plainNext is the chapter's answer, by another way than the package's.
func plainNext(who int, seen []api.Stamp) (api.Stamp, api.Errno) {
	counts := []int{0}
	for _, s := range seen {
		counts = append(counts, s.Count)
	}
	slices.Sort(counts)
	greatest := counts[len(counts)-1]
	switch {
	case who < 0 || who > 14:
		return api.Stamp{}, api.ErrArg
	case greatest > maxCount-1:
		return api.Stamp{}, api.ErrCount
	}
	return api.Stamp{Count: greatest + 1, Who: who}, api.OK
}

func TestNextAtEdges(t *testing.T) {
	for _, a := range edgeStamps() {
		for _, b := range edgeStamps() {
			for _, who := range []int{-1, 0, 7, 14, 15} {
				got, err := clock.Next(who, a, b)
				want, wantErr := plainNext(who, []api.Stamp{a, b})
				if got != want || err != wantErr {
					t.Fatalf("Next(%d, %v, %v) = %v, %v, want %v, %v", who, a, b, got, err, want, wantErr)
				}
			}
		}
	}
}

// P4.3

func TestJoinAndMeetOfNoVectors(t *testing.T) {
	if join, meet := clock.Join(), clock.Meet(); len(join) != 0 || len(meet) != 0 {
		t.Errorf("Join() = %v, Meet() = %v", join, meet)
	}
}

func TestJoinAndMeetExamples(t *testing.T) {
	for _, c := range []struct {
		vectors    [][]int
		join, meet []int
	}{
		{[][]int{{1, 5}, {2}}, []int{2, 5}, []int{1}},
		{[][]int{{2}, {1, 5}}, []int{2, 5}, []int{1}},
		{[][]int{nil}, nil, nil},
		{[][]int{{}, nil}, nil, nil},
		{[][]int{{4, 0, 2, 0, 0}}, []int{4, 0, 2}, []int{4, 0, 2}},
		{[][]int{{0, 0, 0}}, nil, nil},
		{[][]int{{0, 0}, {0, 0, 0}, {0}}, nil, nil},
		{[][]int{{-1, 3, -2}}, []int{0, 3}, []int{0, 3}},
		{[][]int{{-5, -6}}, nil, nil},
		{[][]int{{-5, -6}, {-4}, {}}, nil, nil},
		{[][]int{{math.MinInt, 1}, {math.MaxInt, math.MinInt}}, []int{math.MaxInt, 1}, nil},
		{[][]int{{3, -1, 4}, {2, -2, 5}}, []int{3, 0, 5}, []int{2, 0, 4}},
		{[][]int{{3, -1, 4}, {2, 7, -5}}, []int{3, 7, 4}, []int{2}},
		{[][]int{{1, 2, 3}, {}}, []int{1, 2, 3}, nil},
		{[][]int{{}, {1, 2, 3}}, []int{1, 2, 3}, nil},
		{[][]int{{1, 2, 3}, {0, 2, 3, 4}, {1, 2, 0, 9, 9}}, []int{1, 2, 3, 9, 9}, []int{0, 2}},
		{[][]int{{0, 0, 7}, {0, 0, 8, 1}}, []int{0, 0, 8, 1}, []int{0, 0, 7}},
		{[][]int{{maxCount + 1}, {maxCount}}, []int{maxCount + 1}, []int{maxCount}},
	} {
		if got := clock.Join(c.vectors...); !slices.Equal(got, c.join) {
			t.Errorf("Join(%v) = %v, want %v", c.vectors, got, c.join)
		}
		if got := clock.Meet(c.vectors...); !slices.Equal(got, c.meet) {
			t.Errorf("Meet(%v) = %v, want %v", c.vectors, got, c.meet)
		}
	}
}

func TestJoinAndMeetOfAllShortVectors(t *testing.T) {
	vectors := shortVectors(3, -1, 0, 1, 2)
	for _, a := range vectors {
		checkVectors(t, a)
		for _, b := range vectors {
			checkVectors(t, a, b)
		}
	}
	vectors = shortVectors(2, -1, 0, 1, 2)
	for _, a := range vectors {
		for _, b := range vectors {
			for _, c := range vectors {
				checkVectors(t, a, b, c)
			}
		}
	}
}

// A vector may have more numbers than there may be devices.
func TestVectorsOfManyNumbers(t *testing.T) {
	long, short := make([]int, 1000), make([]int, 15)
	for i := range long {
		long[i] = i - 5
	}
	for i := range short {
		short[i] = 12 - i
	}
	checkVectors(t, long, short)
	checkVectors(t, short, long, nil)
	join := clock.Join(long, short)
	if !clock.Covers(join, long) || !clock.Covers(join, short) || clock.Covers(join[:998], long) || clock.Covers(long, join) {
		t.Error("Covers of many numbers is wrong")
	}
}

func TestCoversExamples(t *testing.T) {
	for _, c := range []struct {
		a, b []int
		want bool
	}{
		{[]int{2, 5}, []int{1, 0, 0}, true},
		{[]int{1, 0, 0}, []int{2, 5}, false},
		{nil, nil, true},
		{nil, []int{0, 0}, true},
		{[]int{0, 0}, nil, true},
		{nil, []int{0, 1}, false},
		{nil, []int{-1, math.MinInt}, true},
		{[]int{-1, math.MinInt}, nil, true},
		{[]int{-3}, []int{-2}, true},
		{[]int{-3}, []int{0}, true},
		{[]int{-3}, []int{1}, false},
		{[]int{0}, []int{-3}, true},
		{[]int{3, 3}, []int{3, 3}, true},
		{[]int{3, 3}, []int{3, 4}, false},
		{[]int{3, 3}, []int{4, 3}, false},
		{[]int{3, 3}, []int{3, 3, 1}, false},
		{[]int{3, 3}, []int{3, 3, 0, -1}, true},
		{[]int{3, 3, 9}, []int{3, 3}, true},
		{[]int{3, 2, 9}, []int{3, 3}, false},
		{[]int{3, 3, 0}, []int{3, 3, 0, 1}, false},
		{[]int{math.MaxInt}, []int{math.MaxInt}, true},
		{[]int{math.MaxInt - 1}, []int{math.MaxInt}, false},
		{[]int{math.MinInt}, []int{math.MaxInt}, false},
	} {
		if got := clock.Covers(c.a, c.b); got != c.want {
			t.Errorf("Covers(%v, %v) = %v, want %v", c.a, c.b, got, c.want)
		}
	}
}

func TestCoversOfAllShortVectors(t *testing.T) {
	vectors := shortVectors(3, -2, -1, 0, 1, 2)
	for _, a := range vectors {
		for _, b := range vectors {
			if got, want := clock.Covers(a, b), plainCovers(a, b); got != want {
				t.Errorf("Covers(%v, %v) = %v, want %v", a, b, got, want)
			}
		}
	}
}

// P4.4

func TestNextIsValidAndBehindAllThatWasSeen(t *testing.T) {
	for _, a := range edgeStamps() {
		for _, b := range edgeStamps() {
			next, err := clock.Next(3, a, b)
			if err != api.OK {
				continue
			}
			if clock.Right(next) != api.OK || !clock.Less(a, next) || !clock.Less(b, next) {
				t.Errorf("Next(3, %v, %v) = %v", a, b, next)
			}
		}
	}
}

func TestStampsOneBehindTheOther(t *testing.T) {
	var seen []api.Stamp
	for i := range 200 {
		next, err := clock.Next(i%15, seen...)
		if want := (api.Stamp{Count: i + 1, Who: i % 15}); next != want || err != api.OK {
			t.Fatalf("Next = %v, %v, want %v", next, err, want)
		}
		seen = append(seen, next)
	}
}

func TestLessIsATotalOrder(t *testing.T) {
	stamps := edgeStamps()
	for _, a := range stamps {
		for _, b := range stamps {
			less, more := clock.Less(a, b), clock.Less(b, a)
			if less && more || (less || more) == (a == b) {
				t.Errorf("%v and %v: %v, and the other way %v", a, b, less, more)
			}
			for _, c := range stamps {
				if less && clock.Less(b, c) && !clock.Less(a, c) {
					t.Errorf("%v is ahead of %v, and that of %v", a, b, c)
				}
			}
		}
	}
}

func TestJoinAndMeetAreBounds(t *testing.T) {
	vectors := shortVectors(2, -1, 0, 1, 2, 3)
	for _, a := range vectors {
		for _, b := range vectors {
			join, meet := clock.Join(a, b), clock.Meet(a, b)
			if !clock.Covers(join, a) || !clock.Covers(join, b) {
				t.Errorf("Join(%v, %v) = %v", a, b, join)
			}
			if !clock.Covers(a, meet) || !clock.Covers(b, meet) {
				t.Errorf("Meet(%v, %v) = %v", a, b, meet)
			}
			for _, c := range vectors {
				if clock.Covers(c, a) && clock.Covers(c, b) && !clock.Covers(c, join) {
					t.Errorf("Join(%v, %v) = %v, and %v is less", a, b, join, c)
				}
				if clock.Covers(a, c) && clock.Covers(b, c) && !clock.Covers(meet, c) {
					t.Errorf("Meet(%v, %v) = %v, and %v is more", a, b, meet, c)
				}
			}
		}
	}
}

// R1 to R3

func TestArgumentsStayAsTheyAre(t *testing.T) {
	whole := []int{1, -2, 3, 0, 0, 9, 9}
	other := []int{5, 6, 7, 8, 9, 10, 11}
	a, b := whole[:5], other[:2]
	checkVectors(t, a, b)
	checkVectors(t, b, a)
	checkVectors(t, a)
	clock.Covers(a, b)
	if !slices.Equal(whole, []int{1, -2, 3, 0, 0, 9, 9}) || !slices.Equal(other, []int{5, 6, 7, 8, 9, 10, 11}) {
		t.Errorf("the vectors became %v and %v", whole, other)
	}
	vectors := [][]int{a, b, {7}}
	clock.Join(vectors[:2]...)
	clock.Meet(vectors[:2]...)
	if &vectors[0][0] != &whole[0] || len(vectors[0]) != 5 || &vectors[1][0] != &other[0] || len(vectors[1]) != 2 || vectors[2][0] != 7 {
		t.Errorf("the list of vectors became %v", vectors)
	}
	seen := []api.Stamp{{Count: -7, Who: 1}, {Count: 3, Who: 20}, {Count: 9, Who: 9}}
	kept := slices.Clone(seen)
	clock.Next(1, seen[:2]...)
	if !slices.Equal(seen, kept) {
		t.Errorf("the stamps became %v", seen)
	}
}

func TestAnswersAreNewMemory(t *testing.T) {
	for _, vectors := range [][][]int{{{1, 2, 3}}, {{1, 2, 3}, {1, 2, 3}}, {{1, 2, 3}, {3, 2, 1, 4}, {9, 9}}} {
		join, meet := clock.Join(vectors...), clock.Meet(vectors...)
		wantJoin, wantMeet := plainJoin(vectors...), plainMeet(vectors...)
		for _, v := range vectors {
			for i := range v {
				v[i] = 100
			}
		}
		if !slices.Equal(join, wantJoin) || !slices.Equal(meet, wantMeet) {
			t.Errorf("the answers became %v and %v with their vectors", join, meet)
		}
		spoil(join)
		if !slices.Equal(meet, wantMeet) {
			t.Errorf("Meet's answer became %v with Join's", meet)
		}
		spoil(meet)
		for _, v := range vectors {
			for i := range v {
				if v[i] != 100 {
					t.Errorf("a vector became %v with the answers", v)
				}
			}
		}
	}
}

// spoil writes all over a list, beyond its length also.
func spoil(v []int) {
	v = v[:cap(v)]
	for i := range v {
		v[i] = -77
	}
}

func TestAnswersHangOnTheArgumentsAlone(t *testing.T) {
	vectors := shortVectors(3, -1, 0, 4)
	var wait sync.WaitGroup
	for range 8 {
		wait.Go(func() {
			for _, a := range vectors {
				for _, b := range vectors {
					checkVectors(t, a, b)
				}
			}
		})
	}
	wait.Wait()
}

func TestRandomVectors(t *testing.T) {
	random := rand.New(rand.NewSource(4))
	for range 5000 {
		var vectors [][]int
		for range random.Intn(6) {
			v := make([]int, random.Intn(20))
			for i := range v {
				v[i] = random.Intn(9) - 3
			}
			vectors = append(vectors, v)
		}
		checkVectors(t, vectors...)
	}
}

// Ways

func TestStampsAndVectorsAreVariadic(t *testing.T) {
	var _ func(int, ...api.Stamp) (api.Stamp, api.Errno) = clock.Next
	var _ func(...[]int) []int = clock.Join
	var _ func(...[]int) []int = clock.Meet
	one, _ := clock.Next(1, api.Stamp{Count: 4}, api.Stamp{Count: 6}, api.Stamp{Count: 5})
	if want := (api.Stamp{Count: 7, Who: 1}); one != want {
		t.Errorf("Next of three stamps = %v, want %v", one, want)
	}
	if got := clock.Join([]int{1}, []int{0, 2}, []int{0, 0, 3}); !slices.Equal(got, []int{1, 2, 3}) {
		t.Errorf("Join of three vectors = %v", got)
	}
}

// vectorsOf is bytes as vectors: 128 begins another one, and others are numbers from -128.
func vectorsOf(data []byte) [][]int {
	vectors := [][]int{{}}
	for _, b := range data {
		if b == 128 {
			vectors = append(vectors, []int{})
			continue
		}
		last := len(vectors) - 1
		vectors[last] = append(vectors[last], int(int8(b)))
	}
	return vectors
}

func FuzzVectors(f *testing.F) {
	f.Add([]byte{1, 5, 128, 2})
	f.Add([]byte{0, 255, 0, 128, 128, 3})
	f.Fuzz(func(t *testing.T, data []byte) {
		vectors := vectorsOf(data)
		checkVectors(t, vectors...)
		first, last := vectors[0], vectors[len(vectors)-1]
		if got, want := clock.Covers(first, last), plainCovers(first, last); got != want {
			t.Errorf("Covers(%v, %v) = %v, want %v", first, last, got, want)
		}
	})
}

func FuzzNext(f *testing.F) {
	f.Add(2, 7, 0, 3, 2)
	f.Add(15, maxCount, -1, math.MaxInt, math.MinInt)
	f.Fuzz(func(t *testing.T, who, countA, whoA, countB, whoB int) {
		a, b := api.Stamp{Count: countA, Who: whoA}, api.Stamp{Count: countB, Who: whoB}
		got, err := clock.Next(who, a, b)
		want, wantErr := plainNext(who, []api.Stamp{a, b})
		if got != want || err != wantErr {
			t.Errorf("Next(%d, %v, %v) = %v, %v, want %v, %v", who, a, b, got, err, want, wantErr)
		}
	})
}
