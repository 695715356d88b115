// Package codec is layer 1: see shared/doc/01-codec.md.
package codec

import (
	"math/bits"
	"strings"

	"arbour/api"
)

// maxDigits is how many bytes a number of 64 bits has at most.
const maxDigits = 8

// Num is a number as bytes.
func Num(n int) string {
	rest := uint64(n)
	digits := (bits.Len64(rest) + 7) / 8
	data := make([]byte, 1+digits)
	data[0] = byte(digits)
	for i := digits; i > 0; i-- {
		data[i] = byte(rest)
		rest >>= 8
	}
	return string(data)
}

// Text is a text as bytes.
func Text(s string) string { return Num(len(s)) + s }

// Reader takes bytes up.
type Reader struct {
	rest string
	err  api.Errno
}

// Read is a reader of bytes.
func Read(data string) *Reader { return &Reader{rest: data} }

// Num is the next number.
func (r *Reader) Num() int {
	if r.Err() != api.OK {
		return 0
	}
	n, used, err := number(r.rest)
	r.pass(used, err)
	return int(n)
}

// Text is the next text.
func (r *Reader) Text() string {
	if r.Err() != api.OK {
		return ""
	}
	s, used, err := text(r.rest)
	r.pass(used, err)
	return s
}

// Err is what was wrong first.
func (r *Reader) Err() api.Errno {
	if r == nil {
		return api.ErrNil
	}
	return r.err
}

// End is what was wrong first, or that bytes are left.
func (r *Reader) End() api.Errno {
	if err := r.Err(); err != api.OK {
		return err
	}
	if r.rest != "" {
		return api.ErrMore
	}
	return api.OK
}

// pass goes on behind what was read, or keeps what was wrong.
func (r *Reader) pass(used int, err api.Errno) {
	r.rest = r.rest[used:]
	r.err = err
}

// number is the number that data begins with, and how many bytes it takes.
func number(data string) (uint64, int, api.Errno) {
	if data == "" {
		return 0, 0, api.ErrEnd
	}
	digits := int(data[0])
	if digits > maxDigits {
		return 0, 0, api.ErrBytes
	}
	if digits > len(data)-1 {
		return 0, 0, api.ErrEnd
	}
	if digits > 0 && data[1] == 0 {
		return 0, 0, api.ErrBytes
	}
	n := uint64(0)
	for i := 1; i <= digits; i++ {
		n = n<<8 | uint64(data[i])
	}
	return n, 1 + digits, api.OK
}

// text is the text that data begins with, and how many bytes it takes.
func text(data string) (string, int, api.Errno) {
	size, head, err := number(data)
	if err != api.OK {
		return "", 0, err
	}
	// Held against what is left before it becomes an int, which could be negative.
	if size > uint64(len(data)-head) {
		return "", 0, api.ErrEnd
	}
	end := head + int(size)
	// A copy, so that the answer shares no memory with what was handed in.
	return strings.Clone(data[head:end]), end, api.OK
}
