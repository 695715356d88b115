package sha_test

import (
	"crypto/sha512"
	"encoding/hex"
	"go/ast"
	"go/parser"
	"go/token"
	"math/rand"
	"strings"
	"sync"
	"testing"
	"unsafe"

	"arbour/sha"
)

// plainSum is the digest by another program than the package's.
func plainSum(data string) string {
	digest := sha512.Sum512([]byte(data))
	return string(digest[:])
}

// allBytes is each byte once, those that are no characters among them.
func allBytes() string {
	data := make([]byte, 256)
	for i := range data {
		data[i] = byte(i)
	}
	return string(data)
}

// edgeSizes is sizes around whole blocks, around those at which one block more is needed, and around those at which the length in bits takes one byte more.
func edgeSizes() []int {
	sizes := []int{0, 1, 2, 31, 32, 33, 8191, 8192, 8193, 65535, 65536, 65537, 1<<21 - 1, 1 << 21, 1<<21 + 1}
	for blocks := 1; blocks <= 33; blocks++ {
		whole := 128 * blocks
		sizes = append(sizes, whole-18, whole-17, whole-16, whole-15, whole-1, whole, whole+1)
	}
	return sizes
}

// check holds Sum and Key of data against the digest by the other program.
func check(t *testing.T, data string) {
	t.Helper()
	want := plainSum(data)
	if got := sha.Sum(data); got != want {
		t.Errorf("Sum of %d bytes = %x, want %x", len(data), got, want)
	}
	if got := sha.Key(data); got != want[:32] {
		t.Errorf("Key of %d bytes = %x, want %x", len(data), got, want[:32])
	}
}

// P3.1

func TestSumExamples(t *testing.T) {
	for data, want := range map[string]string{
		"":                          "cf83e1357eefb8bdf1542850d66d8007d620e4050b5715dc83f4a921d36ce9ce47d0d13c5d85f2b0ff8318d2877eec2f63b931bd47417a81a538327af927da3e",
		"abc":                       "ddaf35a193617abacc417349ae20413112e6fa4e89a97ea20a9eeee64b55d39a2192992a274fc1a836ba3c23a3feebbd454d4423643ce80e2a9ac94fa54ca49f",
		"\x00":                      "b8244d028981d693af7b456af8efa4cad63d282e19ff14942c246e50d9351d22704a802a71c3580b6370de4ceb293c324a8423342557d4e5c38438f0e36910ee",
		"\xff":                      "6700df6600b118ab0432715a7e8a68b0bf37cdf4adaf0fb9e2b3ebe04ad19c7032cbad55e932792af360bafaa09962e2e690652bc075b2dad0c30688ba2f31a3",
		strings.Repeat("\x00", 111): "77ddd3a542e530fd047b8977c657ba6ce72f1492e360b2b2212cd264e75ec03882e4ff0525517ab4207d14c70c2259ba88d4d335ee0e7e20543d22102ab1788c",
		strings.Repeat("\x00", 112): "2be2e788c8a8adeaa9c89a7f78904cacea6e39297d75e0573a73c756234534d6627ab4156b48a6657b29ab8beb73334040ad39ead81446bb09c70704ec707952",
		strings.Repeat("\x00", 127): "876fee26a8dc66d652341b4951d4a96f4f2652803231ed5ec625bbe0d5c49ea70941f5299d775a1ace2291fc33b26016f73c81acde83b3c495be55b6916890a1",
		strings.Repeat("\x00", 128): "ab942f526272e456ed68a979f50202905ca903a141ed98443567b11ef0bf25a552d639051a01be58558122c58e3de07d749ee59ded36acf0c55cd91924d6ba11",
		strings.Repeat("\x00", 239): "5ab1250bc60e105fc71ab84c4866822778e8a40fda48be703be283d1acf7959933ec3024e196c8f4cb548012786f692eb210899323060f28254d3d47a7018205",
		strings.Repeat("\x00", 240): "ba21e55aa88dc8b12e13ebff9e67570177db6aacfb606658650397e6423937d882b1e1c93ed62d12de0dfd59791d78c6a73d68e55f343cfa1f85235daf3b89ec",
		strings.Repeat("a", 1e6):    "e718483d0ce769644e2e42c7bc15b4638e1f98b13b2044285632a803afa973ebde0ff244877ea60a4cb0432ce577c31beb009c5c2c49aa2e4eadb217ad8cc09b",
		"abcdefghbcdefghicdefghijdefghijkefghijklfghijklmghijklmnhijklmnoijklmnopjklmnopqklmnopqrlmnopqrsmnopqrstnopqrstu": "8e959b75dae313da8cf4f72814fc143f8f7779c6eb9f7fa17299aeadb6889018501d289e4900f7e4331b99dec4b5433ac7d329eeb6dd26545e96e55b874be909",
	} {
		if got := hex.EncodeToString([]byte(sha.Sum(data))); got != want {
			t.Errorf("Sum of %d bytes = %s, want %s", len(data), got, want)
		}
	}
}

func TestSumOfEachShortSize(t *testing.T) {
	text := strings.Repeat(allBytes(), 3)
	for size := range 700 {
		check(t, text[:size])
		check(t, text[len(text)-size:])
	}
}

func TestSumOfEachByte(t *testing.T) {
	for _, b := range []byte(allBytes()) {
		for _, size := range []int{1, 111, 112, 128, 300} {
			check(t, strings.Repeat(string([]byte{b}), size))
		}
	}
}

func TestSumAtEdges(t *testing.T) {
	for _, size := range edgeSizes() {
		check(t, strings.Repeat("\x00x\xff\x80", size)[:size])
	}
}

func TestSumOfBytesThatAreNoCharacters(t *testing.T) {
	for _, data := range []string{"\x80", "\xc3", "\xff\xfe\x80", "\xed\xa0\x80", "a\x00b", "ü€\U0001f600", "\xf0\x9f\x98", allBytes(), allBytes() + "\xe2\x82"} {
		check(t, data)
	}
}

// Data that ends as padded data does is still told from the data that was padded.
func TestSumOfDataThatLooksPadded(t *testing.T) {
	padded := "abc\x80" + strings.Repeat("\x00", 123) + "\x18"
	if len(padded) != 128 {
		t.Fatal(len(padded))
	}
	for _, data := range []string{"\x80", "abc\x80", padded[:112], padded[:127], padded, padded + padded} {
		check(t, data)
		if sha.Sum(data) == sha.Sum("abc") {
			t.Errorf("Sum(%q) is Sum of abc", data)
		}
	}
}

// P3.2

func TestKeyExamples(t *testing.T) {
	for data, want := range map[string]string{
		"":    "cf83e1357eefb8bdf1542850d66d8007d620e4050b5715dc83f4a921d36ce9ce",
		"abc": "ddaf35a193617abacc417349ae20413112e6fa4e89a97ea20a9eeee64b55d39a",
	} {
		if got := hex.EncodeToString([]byte(sha.Key(data))); got != want {
			t.Errorf("Key(%q) = %s, want %s", data, got, want)
		}
	}
}

func TestKeyIsTheFirstBytesOfSum(t *testing.T) {
	for _, size := range edgeSizes() {
		data := strings.Repeat("k", size)
		if key, sum := sha.Key(data), sha.Sum(data); key != sum[:32] {
			t.Errorf("%d bytes: Key = %x, Sum = %x", size, key, sum)
		}
	}
}

// P3.3

func TestSizesOfAnswers(t *testing.T) {
	for _, size := range edgeSizes() {
		data := strings.Repeat("\xff", size)
		if sum, key := len(sha.Sum(data)), len(sha.Key(data)); sum != 64 || key != 32 {
			t.Errorf("%d bytes: Sum has %d bytes, Key %d", size, sum, key)
		}
	}
}

// R1 to R4

func TestOneOtherBitGivesAnotherKey(t *testing.T) {
	for _, size := range []int{1, 111, 112, 128, 129, 256} {
		data := []byte(strings.Repeat("m", size))
		seen := map[string]bool{sha.Key(string(data)): true}
		for i := range data {
			for bit := range 8 {
				data[i] ^= 1 << bit
				seen[sha.Key(string(data))] = true
				data[i] ^= 1 << bit
			}
		}
		if len(seen) != 1+8*size {
			t.Errorf("%d bytes and those of one other bit have %d keys", size, len(seen))
		}
	}
}

func TestEachSizeGivesAnotherKey(t *testing.T) {
	seen := map[string]bool{}
	for size := range 600 {
		seen[sha.Key(strings.Repeat("\x00", size))] = true
	}
	if len(seen) != 600 {
		t.Errorf("600 sizes have %d keys", len(seen))
	}
}

func TestAnswersHangOnTheArgumentAlone(t *testing.T) {
	var wait sync.WaitGroup
	for range 8 {
		wait.Go(func() {
			for size := 400; size >= 0; size-- {
				data := strings.Repeat("w", size)
				if sha.Sum(data) != plainSum(data) || sha.Sum(data) != sha.Sum(data) {
					t.Errorf("Sum of %d bytes is wrong", size)
				}
			}
		})
	}
	wait.Wait()
}

func TestAnswersAreNewMemory(t *testing.T) {
	data := strings.Repeat("n", 200)
	a, b, key := sha.Sum(data), sha.Sum(data), sha.Key(data)
	if unsafe.StringData(a) == unsafe.StringData(b) || unsafe.StringData(a) == unsafe.StringData(key) {
		t.Error("two answers share memory")
	}
	if data != strings.Repeat("n", 200) {
		t.Error("the argument was changed")
	}
}

func TestRandomTexts(t *testing.T) {
	random := rand.New(rand.NewSource(3))
	for range 2000 {
		data := make([]byte, random.Intn(1000))
		random.Read(data)
		check(t, string(data))
	}
}

// Ways

// parsed is the package's source.
func parsed(t *testing.T) *ast.File {
	file, err := parser.ParseFile(token.NewFileSet(), "sha.go", nil, parser.SkipObjectResolution)
	if err != nil {
		t.Fatal(err)
	}
	return file
}

// The variables a to h are an array: what the 80 steps go through takes 8 numbers and gives 8.
func TestTheVariablesAreAnArray(t *testing.T) {
	for _, decl := range parsed(t).Decls {
		f, ok := decl.(*ast.FuncDecl)
		if !ok || f.Name.Name != "round" {
			continue
		}
		if !isArrayOf8(f.Type.Params.List[0].Type) || !isArrayOf8(f.Type.Results.List[0].Type) {
			t.Error("round goes through no array of 8 numbers")
		}
		return
	}
	t.Error("there is no round")
}

func isArrayOf8(e ast.Expr) bool {
	array, ok := e.(*ast.ArrayType)
	if !ok {
		return false
	}
	size, ok := array.Len.(*ast.BasicLit)
	return ok && size.Value == "8"
}

func FuzzSum(f *testing.F) {
	f.Add("abc", 1)
	f.Add("\xff\x00", 56)
	f.Add("", 0)
	f.Fuzz(func(t *testing.T, data string, times int) {
		if len(data) < 1<<10 {
			data = strings.Repeat(data, min(max(times, 0), 100))
		}
		check(t, data)
	})
}
