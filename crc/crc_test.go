package crc_test

import (
	"go/ast"
	"go/parser"
	"go/token"
	"hash/crc32"
	"math"
	"math/rand"
	"strings"
	"sync"
	"testing"

	"arbour/crc"
)

const all32 = 1<<32 - 1

// plainMore is what the chapter says, line for line, by another way than the package's: bit by bit, in 64 bits.
func plainMore(sum int, data string) int {
	n := all32 - uint64(sum)&all32
	for _, b := range []byte(data) {
		n ^= uint64(b)
		for i := 0; i < 8; i++ {
			odd := n%2 != 0
			n /= 2
			if odd {
				n ^= 0xEDB88320
			}
		}
	}
	return int(all32 - n)
}

// allBytes is each byte once, those that are no characters among them.
func allBytes() string {
	data := make([]byte, 256)
	for i := range data {
		data[i] = byte(i)
	}
	return string(data)
}

// someTexts is ordinary inputs, long ones, and bytes that are no characters.
func someTexts() []string {
	texts := []string{
		"", "a", "ab", "abc", "123456789", "The quick brown fox jumps over the lazy dog",
		"ü€\U0001f600", "\xff\xfe\x80", "\xc3", "a\x00b", allBytes(), allBytes() + "x",
	}
	for _, size := range []int{1, 2, 3, 4, 5, 7, 8, 9, 63, 64, 65, 255, 256, 257, 2000, 4096, 65537} {
		texts = append(texts, strings.Repeat("\x00", size), strings.Repeat("\xff", size), strings.Repeat("\x00x\xff\x80", size))
	}
	return texts
}

// someSums is sums of 32 bits, and numbers of which only the lowest 32 bits matter.
func someSums() []int {
	sums := []int{0, 1, 2, 0xEDB88320, 0xCBF43926, math.MaxInt, math.MaxInt - 1, math.MinInt, math.MinInt + 1, -0xCBF43926}
	for shift := 0; shift < 64; shift++ {
		p := 1 << shift
		sums = append(sums, p-1, p, p+1, -p-1, -p, -p+1)
	}
	return sums
}

// P2.1

func TestSumExamples(t *testing.T) {
	for data, want := range map[string]int{
		"":          0,
		"123456789": 0xCBF43926,
		"a":         0xE8B7BE43,
		"abc":       0x352441C2,
		"\x00":      0xD202EF8D,
		"\xff":      0xFF000000,
		"The quick brown fox jumps over the lazy dog": 0x414FA339,
		"\x00\x00\x00\x00":         0x2144DF1C,
		"\xff\xff\xff\xff":         0xFFFFFFFF,
		strings.Repeat("\x00", 32): 0x190A55AD,
		strings.Repeat("\xff", 32): 0xFF6CAB0B,
	} {
		if got := crc.Sum(data); got != want {
			t.Errorf("Sum(%q) = %X, want %X", data, got, want)
		}
	}
}

func TestSumOfEachByte(t *testing.T) {
	for _, b := range []byte(allBytes()) {
		data := string([]byte{b})
		if got, want := crc.Sum(data), plainMore(0, data); got != want {
			t.Errorf("Sum(%q) = %X, want %X", data, got, want)
		}
	}
}

func TestSumOfTexts(t *testing.T) {
	for _, data := range someTexts() {
		got := crc.Sum(data)
		if want := plainMore(0, data); got != want {
			t.Errorf("Sum of %d bytes = %X, want %X", len(data), got, want)
		}
		if want := int(crc32.ChecksumIEEE([]byte(data))); got != want {
			t.Errorf("Sum of %d bytes = %X, but CRC-32 is %X", len(data), got, want)
		}
		if more := crc.More(0, data); more != got {
			t.Errorf("More(0, %d bytes) = %X, want %X", len(data), more, got)
		}
	}
}

func TestMoreOfEachByte(t *testing.T) {
	for _, sum := range someSums() {
		for _, b := range []byte(allBytes()) {
			data := string([]byte{b})
			if got, want := crc.More(sum, data), plainMore(sum, data); got != want {
				t.Errorf("More(%#x, %q) = %X, want %X", sum, data, got, want)
			}
		}
	}
}

func TestMoreTakesTheLowest32Bits(t *testing.T) {
	for _, sum := range someSums() {
		for _, data := range []string{"", "\x00", "\xff", "ab", "123456789"} {
			got := crc.More(sum, data)
			if want := plainMore(sum, data); got != want {
				t.Errorf("More(%#x, %q) = %X, want %X", sum, data, got, want)
			}
			if want := crc.More(sum&all32, data); got != want {
				t.Errorf("More(%#x, %q) = %X, without the upper bits %X", sum, data, got, want)
			}
		}
	}
}

func TestMoreOfNoBytesIsTheLowest32Bits(t *testing.T) {
	for sum, want := range map[int]int{
		0: 0, 1: 1, 0xCBF43926: 0xCBF43926, 1<<32 - 1: all32, 1 << 32: 0, 1<<32 + 5: 5, 1 << 40: 0,
		-1: all32, -2: all32 - 1, -1 << 31: 1 << 31, -1 << 32: 0, math.MaxInt: all32, math.MinInt: 0, math.MinInt + 7: 7,
	} {
		if got := crc.More(sum, ""); got != want {
			t.Errorf("More(%d, no bytes) = %X, want %X", sum, got, want)
		}
	}
}

func TestSumsHave32Bits(t *testing.T) {
	for _, sum := range someSums() {
		for _, data := range []string{"", "\x00", "\xff\xff\xff\xff", "abc"} {
			if got := crc.More(sum, data); got < 0 || got > all32 {
				t.Errorf("More(%#x, %q) = %d", sum, data, got)
			}
		}
	}
}

// P2.2

func TestMoreGoesOn(t *testing.T) {
	for _, whole := range []string{"", "a", "123456789", "\x00\x00\x00", "ü€\U0001f600", allBytes()} {
		want := crc.Sum(whole)
		for i := 0; i <= len(whole); i++ {
			if got := crc.More(crc.Sum(whole[:i]), whole[i:]); got != want {
				t.Errorf("%q in two at %d: %X, want %X", whole, i, got, want)
			}
		}
	}
}

func TestMoreByteByByte(t *testing.T) {
	for _, whole := range []string{"123456789", allBytes(), strings.Repeat("\x00\xff", 300)} {
		sum := 0
		for i := range len(whole) {
			sum = crc.More(sum, whole[i:i+1])
			if want := crc.Sum(whole[:i+1]); sum != want {
				t.Fatalf("%d bytes one by one: %X, want %X", i+1, sum, want)
			}
		}
	}
}

func TestMoreOfPairs(t *testing.T) {
	texts := someTexts()
	for i, a := range texts {
		b := texts[(i*7+3)%len(texts)]
		if got, want := crc.More(crc.Sum(a), b), crc.Sum(a+b); got != want {
			t.Errorf("%d and %d bytes: %X, want %X", len(a), len(b), got, want)
		}
	}
}

func TestOneOtherByteGivesAnotherSum(t *testing.T) {
	for _, text := range []string{"\x00", "123456789", "\x00\x00\x00\x00\x00", "\xff\xff\xff\xff\xff", allBytes()[100:164]} {
		was := crc.Sum(text)
		for i := range len(text) {
			data := []byte(text)
			for b := range 256 {
				data[i] = byte(b)
				if same := data[i] == text[i]; (crc.Sum(string(data)) == was) != same {
					t.Errorf("%q with byte %d as %d: same sum %v", text, i, b, !same)
				}
			}
		}
	}
}

// R1 to R3

func TestAnswersHangOnTheArgumentsAlone(t *testing.T) {
	texts := someTexts()
	var wait sync.WaitGroup
	for range 8 {
		wait.Go(func() {
			for i := range texts {
				data := texts[len(texts)-1-i]
				if got, want := crc.More(i, data), int(crc32.Update(uint32(i), crc32.IEEETable, []byte(data))); got != want {
					t.Errorf("More(%d, %d bytes) = %X, want %X", i, len(data), got, want)
				}
			}
		})
	}
	wait.Wait()
}

func TestRandomTexts(t *testing.T) {
	random := rand.New(rand.NewSource(2))
	for range 2000 {
		data := make([]byte, random.Intn(300))
		random.Read(data)
		sum := int(random.Uint64())
		if got, want := crc.More(sum, string(data)), plainMore(sum, string(data)); got != want {
			t.Fatalf("More(%#x, %q) = %X, want %X", sum, data, got, want)
		}
	}
}

// Ways

// parsed is the package's source.
func parsed(t *testing.T) *ast.File {
	file, err := parser.ParseFile(token.NewFileSet(), "crc.go", nil, parser.SkipObjectResolution)
	if err != nil {
		t.Fatal(err)
	}
	return file
}

func TestNothingIsKeptBetweenCalls(t *testing.T) {
	for _, decl := range parsed(t).Decls {
		if vars, ok := decl.(*ast.GenDecl); ok && vars.Tok == token.VAR {
			t.Error("a variable stands at package level")
		}
	}
}

func TestMoreHasItsWays(t *testing.T) {
	array, once, steps := false, false, false
	for _, decl := range parsed(t).Decls {
		if f, ok := decl.(*ast.FuncDecl); !ok || f.Name.Name != "More" {
			continue
		}
		ast.Inspect(decl, func(n ast.Node) bool {
			switch n := n.(type) {
			case *ast.ValueSpec:
				array = array || isArrayOf256(n.Type)
				once = once || isOnce(n.Type)
			case *ast.RangeStmt:
				steps = steps || isLen(n.X)
			}
			return true
		})
	}
	if !array || !once || !steps {
		t.Errorf("local array %v, local once %v, range over an integer %v", array, once, steps)
	}
}

func isArrayOf256(e ast.Expr) bool {
	array, ok := e.(*ast.ArrayType)
	if !ok {
		return false
	}
	size, ok := array.Len.(*ast.BasicLit)
	return ok && size.Value == "256"
}

func isOnce(e ast.Expr) bool {
	once, ok := e.(*ast.SelectorExpr)
	return ok && once.Sel.Name == "Once"
}

func isLen(e ast.Expr) bool {
	call, ok := e.(*ast.CallExpr)
	if !ok {
		return false
	}
	name, ok := call.Fun.(*ast.Ident)
	return ok && name.Name == "len"
}

func FuzzMore(f *testing.F) {
	f.Add(0, "1234", "56789")
	f.Add(-1, "", "\xff\x00")
	f.Add(1<<40+7, "\x80", "")
	f.Fuzz(func(t *testing.T, sum int, a, b string) {
		got := crc.More(sum, a+b)
		if want := plainMore(sum, a+b); got != want {
			t.Errorf("More(%#x, %q) = %X, want %X", sum, a+b, got, want)
		}
		if split := crc.More(crc.More(sum, a), b); split != got {
			t.Errorf("More(%#x) of %q and %q = %X, of both %X", sum, a, b, split, got)
		}
	})
}
