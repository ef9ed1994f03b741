package tests

import (
	"encoding/hex"
	"slices"
	"strings"
	"unsafe"

	"loop.example/g00206/impl"
)

const maxInt = int(^uint(0) >> 1)
const minInt = -maxInt - 1

// sameFrame holds the empty and the nil list of ranges for the same.
func sameFrame(a, b impl.Frame) bool {
	return a.Kind == b.Kind && a.A == b.A && a.B == b.B && a.C == b.C &&
		a.Fin == b.Fin && a.Data == b.Data && slices.Equal(a.Ranges, b.Ranges)
}

func sameFrames(a, b []impl.Frame) bool {
	return slices.EqualFunc(a, b, sameFrame)
}

// varint is written apart from the program, in any size, so that it can also be longer than needed.
func varint(n int, size int) string {
	mark := map[int]int{1: 0, 2: 1, 4: 2, 8: 3}[size]
	b := make([]byte, size)
	for i := range b {
		b[size-1-i] = byte(n >> (8 * i))
	}
	b[0] |= byte(mark << 6)
	return string(b)
}

// wide writes numbers as varints of eight bytes each.
func wide(numbers ...int) string {
	var b strings.Builder
	for _, n := range numbers {
		b.WriteString(varint(n, 8))
	}
	return b.String()
}

func letters(n int) string {
	return strings.Repeat("abcdefghij", n/10+1)[:n]
}

// overlaps tells whether a lies in the memory of b.
func overlaps(a, b string) bool {
	if len(a) == 0 || len(b) == 0 {
		return false
	}
	from := uintptr(unsafe.Pointer(unsafe.StringData(a)))
	begin := uintptr(unsafe.Pointer(unsafe.StringData(b)))
	return from+uintptr(len(a)) > begin && from < begin+uintptr(len(b))
}

// steps is a row of numbers that looks mixed and is the same in each run.
type steps uint64

func (s *steps) below(n int) int {
	*s = *s*6364136223846793005 + 1442695040888963407
	return int(uint64(*s)>>33) % n
}

func (s *steps) text(n int) string {
	b := make([]byte, n)
	for i := range b {
		b[i] = byte(s.below(256))
	}
	return string(b)
}

// sameHeader holds the empty and the nil list of versions for the same.
func sameHeader(a, b impl.Header) bool {
	return a.Form == b.Form && a.Bits == b.Bits && a.Version == b.Version && a.Dcid == b.Dcid &&
		a.Scid == b.Scid && a.Token == b.Token && a.Payload == b.Payload && slices.Equal(a.Versions, b.Versions)
}

// unhex reads hex, blanks aside; what is no hex is a mistake of the test itself.
func unhex(s string) string {
	b, err := hex.DecodeString(strings.ReplaceAll(s, " ", ""))
	if err != nil {
		panic(err)
	}
	return string(b)
}
