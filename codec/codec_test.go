package codec_test

import (
	"bytes"
	"encoding/binary"
	"math"
	"strings"
	"testing"
	"unsafe"

	"arbour/api"
	"arbour/codec"
)

const full = "\xff\xff\xff\xff\xff\xff\xff\xff"

// plainNum is the chapter's encoding of an integer, by another way than the package's.
func plainNum(n int) string {
	digits := bytes.TrimLeft(binary.BigEndian.AppendUint64(nil, uint64(n)), "\x00")
	return string(append([]byte{byte(len(digits))}, digits...))
}

// edgeNums is the numbers around each one at which the encoding grows, and those around the ends of int.
func edgeNums() []int {
	nums := []int{0, 2, 9, 10, 258, 1 << 40, math.MaxInt, math.MaxInt - 1, math.MinInt, math.MinInt + 1}
	for shift := 0; shift < 64; shift++ {
		p := 1 << shift
		nums = append(nums, p-1, p, p+1, -p-1, -p, -p+1)
	}
	return nums
}

// edgeTexts is texts at whose lengths the encoding of the length grows, and bytes that are no characters.
func edgeTexts() []string {
	texts := []string{"", "a", "ab", "\x00", "\x00\x00\x01", "\xff\xfe\x80", "ü€\U0001f600", "\x01\x02ab"}
	for _, size := range []int{127, 128, 255, 256, 257, 300, 65535, 65536, 65537} {
		texts = append(texts, strings.Repeat("\x00x\xff", size)[:size])
	}
	return texts
}

// P1.1

func TestNumExamples(t *testing.T) {
	for n, want := range map[int]string{
		0:             "\x00",
		1:             "\x01\x01",
		127:           "\x01\x7f",
		128:           "\x01\x80",
		255:           "\x01\xff",
		256:           "\x02\x01\x00",
		258:           "\x02\x01\x02",
		65535:         "\x02\xff\xff",
		65536:         "\x03\x01\x00\x00",
		1 << 40:       "\x06\x01\x00\x00\x00\x00\x00",
		math.MaxInt:   "\x08\x7f" + full[:7],
		math.MinInt:   "\x08\x80\x00\x00\x00\x00\x00\x00\x00",
		-1:            "\x08" + full,
		-2:            "\x08" + full[:7] + "\xfe",
		-256:          "\x08" + full[:7] + "\x00",
		-(1 << 40):    "\x08\xff\xff\xff\x00\x00\x00\x00\x00",
		0x01000000ff:  "\x05\x01\x00\x00\x00\xff",
		0x0102030405:  "\x05\x01\x02\x03\x04\x05",
		1<<56 - 1:     "\x07" + full[:7],
		1 << 56:       "\x08\x01\x00\x00\x00\x00\x00\x00\x00",
		math.MaxInt32: "\x04\x7f\xff\xff\xff",
	} {
		if got := codec.Num(n); got != want {
			t.Errorf("Num(%d) = %q, want %q", n, got, want)
		}
	}
}

func TestNumAtEdges(t *testing.T) {
	for _, n := range edgeNums() {
		if got, want := codec.Num(n), plainNum(n); got != want {
			t.Errorf("Num(%d) = %q, want %q", n, got, want)
		}
	}
}

func TestTextExamples(t *testing.T) {
	for s, want := range map[string]string{
		"":                        "\x00",
		"ab":                      "\x01\x02ab",
		"\x00":                    "\x01\x01\x00",
		"\xff\x80":                "\x01\x02\xff\x80",
		"€":                       "\x01\x03\xe2\x82\xac",
		strings.Repeat("x", 255):  "\x01\xff" + strings.Repeat("x", 255),
		strings.Repeat("x", 256):  "\x02\x01\x00" + strings.Repeat("x", 256),
		strings.Repeat("x", 4096): "\x02\x10\x00" + strings.Repeat("x", 4096),
	} {
		if got := codec.Text(s); got != want {
			t.Errorf("Text(%q) = %q, want %q", s, got, want)
		}
	}
}

func TestTextIsLengthAndBytes(t *testing.T) {
	for _, s := range edgeTexts() {
		if got := codec.Text(s); got != plainNum(len(s))+s {
			t.Errorf("Text of %d bytes is wrong", len(s))
		}
	}
}

// P1.2

func TestNumReads(t *testing.T) {
	for _, c := range []struct {
		data string
		want int
		end  api.Errno
	}{
		{"\x00", 0, api.OK},
		{"\x00\x00", 0, api.ErrMore},
		{"\x01\x01", 1, api.OK},
		{"\x01\x80", 128, api.OK},
		{"\x02\x01\x00", 256, api.OK},
		{"\x02\x01\x02", 258, api.OK},
		{"\x02\x01\x02\x03", 258, api.ErrMore},
		{"\x07" + full[:7], 1<<56 - 1, api.OK},
		{"\x08\x7f" + full[:7], math.MaxInt, api.OK},
		{"\x08\x80\x00\x00\x00\x00\x00\x00\x00", math.MinInt, api.OK},
		{"\x08" + full, -1, api.OK},
	} {
		r := codec.Read(c.data)
		if got := r.Num(); got != c.want || r.Err() != api.OK || r.End() != c.end {
			t.Errorf("%q: Num = %d, Err = %d, End = %d", c.data, got, r.Err(), r.End())
		}
	}
}

// wrongNums is data that is no integer, with the first error that applies.
func wrongNums() map[string]api.Errno {
	return map[string]api.Errno{
		"":                    api.ErrEnd,
		"\x01":                api.ErrEnd,
		"\x02\x01":            api.ErrEnd,
		"\x08" + full[:7]:     api.ErrEnd,
		"\x02\x00":            api.ErrEnd, // it ends ahead of being seen as too long
		"\x08\x00":            api.ErrEnd,
		"\x09":                api.ErrBytes, // too many bytes, whether they follow or not
		"\x09" + full + full:  api.ErrBytes,
		"\x80":                api.ErrBytes,
		"\xff":                api.ErrBytes,
		"\x01\x00":            api.ErrBytes,
		"\x02\x00\x01":        api.ErrBytes,
		"\x02\x00\x00":        api.ErrBytes,
		"\x08\x00" + full[:7]: api.ErrBytes,
		"\x01\x00\x00":        api.ErrBytes,
	}
}

func TestNumErrors(t *testing.T) {
	for data, want := range wrongNums() {
		r := codec.Read(data)
		if n := r.Num(); n != 0 || r.Err() != want || r.End() != want {
			t.Errorf("%q: Num = %d, Err = %d, End = %d, want %d", data, n, r.Err(), r.End(), want)
		}
	}
}

func TestTextReads(t *testing.T) {
	r := codec.Read("\x01\x02ab\x00\x01\x03\x00\xff\x80\x01\x07z")
	for _, want := range []string{"ab", "", "\x00\xff\x80"} {
		if got := r.Text(); got != want || r.Err() != api.OK {
			t.Errorf("Text = %q, Err = %d, want %q", got, r.Err(), want)
		}
	}
	if n := r.Num(); n != 7 || r.End() != api.ErrMore {
		t.Errorf("Num = %d, End = %d", n, r.End())
	}
}

func TestTextErrors(t *testing.T) {
	wrong := wrongNums()
	for data, want := range map[string]api.Errno{
		"\x01\x01":                                    api.ErrEnd,
		"\x01\x03ab":                                  api.ErrEnd,
		"\x02\x01\x00ab":                              api.ErrEnd,
		"\x08" + full:                                 api.ErrEnd, // the length is no negative number, but a great one
		"\x08" + full + "x":                           api.ErrEnd,
		"\x08\x7f" + full[:7] + "x":                   api.ErrEnd,
		"\x08\x80\x00\x00\x00\x00\x00\x00\x00":        api.ErrEnd,
		"\x08\x80\x00\x00\x00\x00\x00\x00\x01x":       api.ErrEnd,
		"\x05\x01\x00\x00\x00\x01x":                   api.ErrEnd, // its lowest 32 bits are 1
		"\x08\xff\xff\xff\xff\xff\xff\xff\xf7":        api.ErrEnd, // minus the bytes of the length itself
		"\x08\xff\xff\xff\xff\xff\xff\xff\xf6" + full: api.ErrEnd,
	} {
		wrong[data] = want
	}
	for data, want := range wrong {
		r := codec.Read(data)
		if s := r.Text(); s != "" || r.Err() != want || r.End() != want {
			t.Errorf("%q: Text = %q, Err = %d, End = %d, want %d", data, s, r.Err(), r.End(), want)
		}
	}
}

func TestFirstErrorStays(t *testing.T) {
	for _, c := range []struct {
		data string
		text bool
		want api.Errno
	}{
		{"\x09\x01\x05\x01\x01a", false, api.ErrBytes}, // what stands behind could be read
		{"\x01\x00\x01\x05", false, api.ErrBytes},
		{"\x04\x01\x05", false, api.ErrEnd},
		{"\x01\x04\x01a", true, api.ErrEnd},
		{"\x01\x00\x01\x01a", true, api.ErrBytes},
		{"", true, api.ErrEnd},
	} {
		r := codec.Read(c.data)
		if c.text {
			r.Text()
		} else {
			r.Num()
		}
		for i := 0; i < 4; i++ {
			if n, s := r.Num(), r.Text(); n != 0 || s != "" {
				t.Errorf("%q: Num = %d, Text = %q behind an error", c.data, n, s)
			}
			if r.Err() != c.want || r.End() != c.want {
				t.Errorf("%q: Err = %d, End = %d, want %d", c.data, r.Err(), r.End(), c.want)
			}
		}
	}
}

func TestErrorBehindGoodValues(t *testing.T) {
	r := codec.Read("\x01\x05\x01\x01a\x02\x00\x01\x01\x06")
	if n, s := r.Num(), r.Text(); n != 5 || s != "a" || r.Err() != api.OK {
		t.Errorf("Num = %d, Text = %q, Err = %d", n, s, r.Err())
	}
	if n := r.Num(); n != 0 || r.Err() != api.ErrBytes {
		t.Errorf("Num = %d, Err = %d", n, r.Err())
	}
	if n := r.Num(); n != 0 || r.End() != api.ErrBytes {
		t.Errorf("Num = %d, End = %d", n, r.End())
	}
}

// P1.3

func TestEndTellsAndKeepsNothing(t *testing.T) {
	r := codec.Read("\x01\x05\x01\x01a")
	for i := 0; i < 3; i++ {
		if r.Err() != api.OK || r.End() != api.ErrMore {
			t.Errorf("Err = %d, End = %d ahead of all", r.Err(), r.End())
		}
	}
	if n := r.Num(); n != 5 || r.Err() != api.OK || r.End() != api.ErrMore {
		t.Errorf("Num = %d, Err = %d, End = %d", n, r.Err(), r.End())
	}
	if s := r.Text(); s != "a" || r.Err() != api.OK || r.End() != api.OK {
		t.Errorf("Text = %q, Err = %d, End = %d", s, r.Err(), r.End())
	}
	if n := r.Num(); n != 0 || r.Err() != api.ErrEnd || r.End() != api.ErrEnd {
		t.Errorf("Num = %d, Err = %d, End = %d behind the end", n, r.Err(), r.End())
	}
}

func TestEmptyData(t *testing.T) {
	r := codec.Read("")
	if r == nil || r.Err() != api.OK || r.End() != api.OK {
		t.Fatal("a reader of no bytes is at its end, without an error")
	}
	if n := r.Num(); n != 0 || r.Err() != api.ErrEnd {
		t.Errorf("Num = %d, Err = %d", n, r.Err())
	}
}

func TestNilReader(t *testing.T) {
	var r *codec.Reader
	for i := 0; i < 2; i++ {
		if n, s := r.Num(), r.Text(); n != 0 || s != "" {
			t.Errorf("Num = %d, Text = %q", n, s)
		}
		if r.Err() != api.ErrNil || r.End() != api.ErrNil {
			t.Errorf("Err = %d, End = %d", r.Err(), r.End())
		}
	}
}

// P1.4

func TestReadersCallsGiveWhatWasEncoded(t *testing.T) {
	nums, texts := edgeNums(), edgeTexts()
	var data strings.Builder
	for i, n := range nums {
		data.WriteString(codec.Num(n))
		data.WriteString(codec.Text(texts[i%len(texts)]))
	}
	r := codec.Read(data.String())
	for i, n := range nums {
		if got := r.Num(); got != n {
			t.Fatalf("number %d: %d, want %d", i, got, n)
		}
		if got, want := r.Text(), texts[i%len(texts)]; got != want {
			t.Fatalf("text %d: %d bytes, want %d", i, len(got), len(want))
		}
	}
	if r.End() != api.OK {
		t.Errorf("End = %d", r.End())
	}
}

func TestNestedTexts(t *testing.T) {
	inner := codec.Num(-7) + codec.Text("a\x00b")
	outer := codec.Read(codec.Text(codec.Text(inner)) + codec.Num(3))
	r := codec.Read(codec.Read(outer.Text()).Text())
	if n, s := r.Num(), r.Text(); n != -7 || s != "a\x00b" || r.End() != api.OK {
		t.Errorf("Num = %d, Text = %q, End = %d", n, s, r.End())
	}
	if n := outer.Num(); n != 3 || outer.End() != api.OK {
		t.Errorf("Num = %d, End = %d", n, outer.End())
	}
}

// eachShort gives all texts of at most two bytes, and longer ones of the bytes that matter.
func eachShort(give func(data string)) {
	give("")
	for a := 0; a < 256; a++ {
		give(string([]byte{byte(a)}))
		for b := 0; b < 256; b++ {
			give(string([]byte{byte(a), byte(b)}))
		}
	}
	eachOf("\x00\x01\x02\x03\x04\x08\x09\x80\xff", 5, "", give)
	for _, first := range []string{"\x00", "\x01", "\x7f", "\x80", "\xff"} {
		eachOf("\x00\x01\xff", 8, "\x07"+first, give)
		eachOf("\x00\x01\xff", 9, "\x08"+first, give)
	}
}

// eachOf gives all texts that begin so and have at most so many bytes behind that.
func eachOf(alphabet string, most int, start string, give func(data string)) {
	give(start)
	for i := 0; i < len(alphabet) && most > 0; i++ {
		eachOf(alphabet, most-1, start+alphabet[i:i+1], give)
	}
}

func TestNoOtherBytesAreTheInteger(t *testing.T) {
	eachShort(func(data string) {
		r := codec.Read(data)
		n := r.Num()
		if whole := r.End() == api.OK; whole && plainNum(n) != data {
			t.Errorf("%q is read as %d", data, n)
		}
		if r.End() == api.ErrMore && !strings.HasPrefix(data, plainNum(n)) {
			t.Errorf("%q is read as beginning with %d", data, n)
		}
	})
}

// R1 to R3

// plainNumErr is what the chapter says, line for line, of reading an integer.
func plainNumErr(data string) api.Errno {
	switch {
	case len(data) == 0:
		return api.ErrEnd
	case data[0] > 8:
		return api.ErrBytes
	case len(data[1:]) < int(data[0]):
		return api.ErrEnd
	case data[0] >= 1 && data[1] == 0:
		return api.ErrBytes
	}
	return api.OK
}

// plainText is what the chapter says of reading a string.
func plainText(data string) (string, api.Errno) {
	if e := plainNumErr(data); e != api.OK {
		return "", e
	}
	size, rest := uint64(0), data[1+int(data[0]):]
	for _, digit := range []byte(data[1 : 1+int(data[0])]) {
		size = size*256 + uint64(digit)
	}
	if uint64(len(rest)) < size {
		return "", api.ErrEnd
	}
	return rest[:size], api.OK
}

func TestAllErrorsInTheirOrder(t *testing.T) {
	eachShort(func(data string) {
		r := codec.Read(data)
		if n := r.Num(); r.Err() != plainNumErr(data) || r.Err() != api.OK && n != 0 {
			t.Errorf("%q: Num = %d, Err = %d", data, n, r.Err())
		}
		r = codec.Read(data)
		want, e := plainText(data)
		if s := r.Text(); s != want || r.Err() != e {
			t.Errorf("%q: Text = %q, Err = %d", data, s, r.Err())
		}
	})
}

func TestReadersShareNothing(t *testing.T) {
	data := codec.Text("ab") + codec.Num(9)
	a, b := codec.Read(data), codec.Read(data)
	if s := a.Text(); s != "ab" {
		t.Errorf("Text = %q", s)
	}
	a.Text()
	if a.Err() != api.ErrEnd || b.Err() != api.OK {
		t.Errorf("Errs = %d, %d", a.Err(), b.Err())
	}
	if s, n := b.Text(), b.Num(); s != "ab" || n != 9 || b.End() != api.OK {
		t.Errorf("Text = %q, Num = %d, End = %d", s, n, b.End())
	}
}

func TestAnswersAreNewMemory(t *testing.T) {
	s := "some bytes"
	data := codec.Text(s)
	if unsafe.StringData(data[len(data)-len(s):]) == unsafe.StringData(s) {
		t.Error("Text shares memory with its argument")
	}
	r := codec.Read(data)
	if got := r.Text(); got != s || unsafe.StringData(got) == unsafe.StringData(data[len(data)-len(s):]) {
		t.Error("a reader's Text shares memory with the data")
	}
}

func FuzzReader(f *testing.F) {
	f.Add("\x01\x02ab\x00\x01\x07z", uint64(5))
	f.Add("\x08"+full+"x", uint64(1))
	f.Add("\x02\x00\x01", uint64(0))
	f.Fuzz(func(t *testing.T, data string, calls uint64) {
		r := codec.Read(data)
		again := ""
		for i := 0; i < 64 && r.Err() == api.OK; i++ {
			value := ""
			if calls>>i&1 == 0 {
				value = codec.Num(r.Num())
			} else {
				value = codec.Text(r.Text())
			}
			if r.Err() == api.OK {
				again += value
			}
		}
		if !strings.HasPrefix(data, again) || r.End() == api.OK && again != data {
			t.Errorf("%q is read as %q", data, again)
		}
	})
}
