package tests

import (
	"encoding/hex"
	"strings"
	"testing"

	"loop.example/g00206/impl"
)

const balancerKey = "8f95f09245765f80256934e50c66207f"

// blockForm is how a half, its text's length and a pass become a block.
type blockForm func(half string, n, pass int) string

// endedBlock is the form of QUIC-LB, for all passes.
func endedBlock(half string, n, pass int) string {
	return half + noughts[:14-len(half)] + string([]byte{byte(n), byte(pass)})
}

// sidedBlock is the document's form: the second and the fourth pass are told at the other end.
func sidedBlock(half string, n, pass int) string {
	if pass == 2 || pass == 4 {
		return string([]byte{byte(n), byte(pass)}) + noughts[:14-len(half)] + half
	}
	return endedBlock(half, n, pass)
}

func xorDigits(a, b string) string {
	const digits = "0123456789abcdef"
	var x strings.Builder
	for i := range len(a) {
		x.WriteByte(digits[strings.IndexByte(digits, a[i])^strings.IndexByte(digits, b[i])])
	}
	return x.String()
}

// fourElsewhere goes through the passes digit by digit, so that an odd text is cut in half as evenly as an even one.
func fourElsewhere(t *testing.T, form blockForm, key, s string) string {
	t.Helper()
	n := len(s)
	all := hex.EncodeToString([]byte(s))
	left, right := all[:n], all[n:]
	fill := "0"[:n%2]
	for pass := 1; pass <= 4; pass++ {
		if pass%2 == 1 {
			cover := hex.EncodeToString([]byte(libraryBlock(t, key, form(unhex(left+fill), n, pass))))
			right = xorDigits(right, cover[n%2:])
		} else {
			cover := hex.EncodeToString([]byte(libraryBlock(t, key, form(unhex(fill+right), n, pass))))
			left = xorDigits(left, cover)
		}
	}
	return unhex(left + right)
}

func wantFour(t *testing.T, key, s, want string) {
	t.Helper()
	if got, ok := impl.FourPasses(key, s); got != want || !ok {
		t.Errorf("FourPasses of %x: %x %v, not %x", s, got, ok, want)
	}
	if back, ok := impl.FourBack(key, want); back != s || !ok {
		t.Errorf("FourBack of %x: %x %v, not %x", want, back, ok, s)
	}
}

func wantNoFour(t *testing.T, key, s string) {
	t.Helper()
	if got, ok := impl.FourPasses(key, s); got != "" || ok {
		t.Errorf("FourPasses, key of %d, text of %d: %x %v", len(key), len(s), got, ok)
	}
	if got, ok := impl.FourBack(key, s); got != "" || ok {
		t.Errorf("FourBack, key of %d, text of %d: %x %v", len(key), len(s), got, ok)
	}
}

func wantHalfBlock(t *testing.T, half string, size, pass int, want string) {
	t.Helper()
	if got, ok := impl.HalfBlock(half, size, pass); got != want || !ok {
		t.Errorf("HalfBlock of %x, %d, %d: %x %v, not %x", half, size, pass, got, ok, want)
	}
}

func wantNoHalfBlock(t *testing.T, half string, size, pass int) {
	t.Helper()
	if got, ok := impl.HalfBlock(half, size, pass); got != "" || ok {
		t.Errorf("HalfBlock of %x, %d, %d: %x %v", half, size, pass, got, ok)
	}
}

// What these tests hold the program against is itself held against QUIC-LB's answers, with the blocks that QUIC-LB has.
func TestFourElsewhereIsQuicLb(t *testing.T) {
	for _, x := range []struct{ key, text, want string }{
		{balancerKey, "ed793aee080dbf", "20b1d07b359d3c"},
		{balancerKey, "ed793a51d49b8f5fab65ee080dbf48", "cc381bc74cb4fbad2823a3d1f8fed2"},
		{balancerKey, "ed793a51d49b8f5fabee080dbf48c0d1e55d", "5779c9cc86beb3a3a4a3ca96fce4bfe0cdbc"},
		{"fdf726a9893ec05c0632d3956680baf0", "31441a9c69c275", "67947d29be054a"},
	} {
		if got := fourElsewhere(t, endedBlock, unhex(x.key), unhex(x.text)); got != unhex(x.want) {
			t.Errorf("%s: %x, not %s", x.text, got, x.want)
		}
	}
}

func TestFourPassesAsTold(t *testing.T) {
	for _, x := range []struct{ key, text, want string }{
		{balancerKey, "ed793aee080dbf", "7d0b107dd4f4e8"},
		{balancerKey, "ed793a51d49b8f5fab65ee080dbf48", "bfbeda92fd4d136f11aae81124ac81"},
		{balancerKey, "ed793a51d49b8f5fabee080dbf48c0d1e55d", "ac4a78a3ccfcb9eff846329472705ff5cbab"},
		{"fdf726a9893ec05c0632d3956680baf0", "31441a9c69c275", "d67511c906ac36"},
	} {
		wantFour(t, unhex(x.key), unhex(x.text), unhex(x.want))
	}
}

func TestFourPassesOfAllLengths(t *testing.T) {
	var s steps
	for n := 5; n <= 19; n++ {
		for range 60 {
			key, text := s.text(16), s.text(n)
			wantFour(t, key, text, fourElsewhere(t, sidedBlock, key, text))
		}
		for _, b := range []string{"\x00", "\xff", "\xf0", "\x0f"} {
			text := strings.Repeat(b, n)
			wantFour(t, noughts, text, fourElsewhere(t, sidedBlock, noughts, text))
		}
	}
}

// Promise 7: four passes are undone, whichever way comes first.
func TestFourPassesAreUndone(t *testing.T) {
	var s steps
	for range 4000 {
		key, text := s.text(16), s.text(5+s.below(15))
		there, ok := impl.FourPasses(key, text)
		back, okBack := impl.FourBack(key, there)
		if back != text || !ok || !okBack || len(there) != len(text) {
			t.Fatalf("%x: %x, and back %x", text, there, back)
		}
		first, ok := impl.FourBack(key, text)
		again, okAgain := impl.FourPasses(key, first)
		if again != text || !ok || !okAgain || len(first) != len(text) {
			t.Fatalf("%x: back %x, and there %x", text, first, again)
		}
	}
}

func TestFourPassesRefuse(t *testing.T) {
	for _, n := range []int{0, 1, 4, 20, 21, 32, 1000} {
		wantNoFour(t, letters(16), letters(n))
	}
	for _, n := range []int{0, 1, 15, 17, 24, 32, 1000} {
		for size := 4; size <= 20; size++ {
			wantNoFour(t, letters(n), letters(size))
		}
	}
	for size := 5; size <= 19; size++ {
		text := letters(size)
		wantFour(t, letters(16), text, fourElsewhere(t, sidedBlock, letters(16), text))
	}
}

// withMiddle is text with the bits of its middle byte turned about by b.
func withMiddle(text string, b byte) string {
	turned := []byte(text)
	turned[len(text)/2] ^= b
	return string(turned)
}

// Each bit of a middle byte counts, and comes back, whichever half has it.
func TestMiddleByteIsShared(t *testing.T) {
	var s steps
	for n := 5; n <= 19; n += 2 {
		key, text := s.text(16), s.text(n)
		seen := map[string]bool{}
		for b := range 256 {
			other := withMiddle(text, byte(b))
			there := fourElsewhere(t, sidedBlock, key, other)
			wantFour(t, key, other, there)
			seen[there] = true
		}
		if len(seen) != 256 {
			t.Errorf("%d bytes: %d texts of 256", n, len(seen))
		}
	}
}

// passesTold makes the passes of an odd text by the program's own blocks, byte by byte as the document says it.
func passesTold(t *testing.T, key, text string) string {
	t.Helper()
	n := len(text)
	half := (n + 1) / 2
	left, right := []byte(text[:half]), []byte(text[n-half:])
	left[half-1] &= 0xf0
	right[0] &= 0x0f
	for pass := 1; pass <= 4; pass++ {
		from, to := left, right
		if pass%2 == 0 {
			from, to = right, left
		}
		b, ok := impl.HalfBlock(string(from), n, pass)
		cover, okCover := impl.AesBlock(key, b)
		if !ok || !okCover {
			t.Fatal(n, pass)
		}
		for i := range to {
			to[i] ^= cover[i]
		}
		left[half-1] &= 0xf0
		right[0] &= 0x0f
	}
	return string(left[:half-1]) + string([]byte{left[half-1] | right[0]}) + string(right[1:])
}

func TestOddPassesByTheirBlocks(t *testing.T) {
	var s steps
	for n := 5; n <= 19; n += 2 {
		for range 20 {
			key, text := s.text(16), s.text(n)
			wantFour(t, key, text, passesTold(t, key, text))
		}
	}
}

func TestHalfBlockAsTold(t *testing.T) {
	wantHalfBlock(t, unhex("aaba3c"), 11, 1, unhex("aaba3c0000000000000000000000 0b01"))
	wantHalfBlock(t, unhex("aaba3c"), 11, 2, unhex("0b02 0000000000000000000000aaba3c"))
	wantHalfBlock(t, unhex("aaba3c"), 11, 3, unhex("aaba3c0000000000000000000000 0b03"))
	wantHalfBlock(t, unhex("aaba3c"), 11, 4, unhex("0b04 0000000000000000000000aaba3c"))
	wantHalfBlock(t, "", 5, 1, unhex("00000000000000000000000000000501"))
	wantHalfBlock(t, "", 19, 4, unhex("13040000000000000000000000000000"))
}

// A half may have any length up to ten bytes, whatever the size.
func TestHalfBlockOfAll(t *testing.T) {
	for n := range 11 {
		for size := 5; size <= 19; size++ {
			for pass := 1; pass <= 4; pass++ {
				wantHalfBlock(t, letters(n), size, pass, sidedBlock(letters(n), size, pass))
			}
		}
	}
}

func TestHalfBlockRefuses(t *testing.T) {
	for _, size := range []int{minInt, -5, -1, 0, 4, 20, 256 + 5, 1<<32 + 5, maxInt} {
		for _, n := range []int{0, 1, 10} {
			wantNoHalfBlock(t, letters(n), size, 1)
			wantNoHalfBlock(t, letters(n), size, 4)
		}
	}
	for _, pass := range []int{minInt, -1, 0, 5, 6, 256 + 1, 1<<32 + 1, maxInt} {
		for _, n := range []int{0, 1, 10} {
			wantNoHalfBlock(t, letters(n), 5, pass)
			wantNoHalfBlock(t, letters(n), 19, pass)
		}
	}
	for _, n := range []int{11, 12, 14, 16, 17, 1000} {
		for pass := 1; pass <= 4; pass++ {
			wantNoHalfBlock(t, letters(n), 5, pass)
			wantNoHalfBlock(t, letters(n), 19, pass)
		}
	}
}
