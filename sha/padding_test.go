package sha

import (
	"math/big"
	"strings"
	"testing"
)

// Inside the package, so that lengths are tested of which no test can hold the data.

// plainPadding is what the chapter says is appended to data of so many bytes.
func plainPadding(size int) string {
	length := new(big.Int).Mul(big.NewInt(int64(size)), big.NewInt(8)).FillBytes(make([]byte, 16))
	zeros := 0
	for (size+1+zeros+16)%128 != 0 {
		zeros++
	}
	return "\x80" + strings.Repeat("\x00", zeros) + string(length)
}

func TestPaddingOfEachShortSize(t *testing.T) {
	for size := range 1000 {
		if got, want := padding(size), plainPadding(size); got != want {
			t.Errorf("padding(%d) = %x, want %x", size, got, want)
		}
	}
}

func TestPaddingOfGreatSizes(t *testing.T) {
	for shift := 10; shift < 62; shift++ {
		for add := -130; add <= 130; add++ {
			size := 1<<shift + add
			if got, want := padding(size), plainPadding(size); got != want {
				t.Errorf("padding(%d) = %x, want %x", size, got, want)
			}
		}
	}
}

func TestPaddingExamples(t *testing.T) {
	for size, want := range map[int]string{
		0:         "\x80" + strings.Repeat("\x00", 127),
		3:         "\x80" + strings.Repeat("\x00", 123) + "\x18",
		111:       "\x80" + strings.Repeat("\x00", 14) + "\x03\x78",
		112:       "\x80" + strings.Repeat("\x00", 141) + "\x03\x80",
		128:       "\x80" + strings.Repeat("\x00", 125) + "\x04\x00",
		1 << 29:   "\x80" + strings.Repeat("\x00", 122) + "\x01\x00\x00\x00\x00",
		1<<31 - 1: "\x80" + strings.Repeat("\x00", 123) + "\x03\xff\xff\xff\xf8",
		1 << 61:   "\x80" + strings.Repeat("\x00", 118) + "\x01" + strings.Repeat("\x00", 8),
	} {
		if got := padding(size); got != want {
			t.Errorf("padding(%d) = %x, want %x", size, got, want)
		}
	}
}
