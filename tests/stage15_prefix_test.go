package tests

import (
	"fmt"
	"strings"
	"testing"

	"loop.example/g00206/impl"
)

const mostPrefix = 1000000000

// prefixElsewhere writes a number from the back: what is left of it in digits of 128, all but the last one marked.
func prefixElsewhere(n, bits, first int) string {
	most := 1
	for range bits {
		most *= 2
	}
	most--
	if n < most {
		return string([]byte{byte(first + n)})
	}
	text, left := "", n-most
	for ; left >= 128; left /= 128 {
		text += string([]byte{byte(128 + left%128)})
	}
	return string([]byte{byte(first + most)}) + text + string([]byte{byte(left)})
}

// firstsOf are the first bytes that leave so many bits to a number.
func firstsOf(bits int) []int {
	var l []int
	for first := 0; first < 256; first += 1 << bits {
		l = append(l, first)
	}
	return l
}

func wantPrefix(t *testing.T, n, bits, first int, want string) {
	t.Helper()
	if s, ok := impl.PrefixBytes(n, bits, first); s != want || !ok {
		t.Errorf("%d by %d bits, %d: %x %v, not %x", n, bits, first, s, ok, want)
	}
	for _, behind := range []string{"", "\x00", "\x80", "\xff\xff", "more"} {
		wantTaken(t, want+behind, bits, n, first, len(want))
	}
	for size := range len(want) {
		wantNotTaken(t, want[:size], bits, "cut off")
	}
}

func wantNoPrefix(t *testing.T, n, bits, first int, why string) {
	t.Helper()
	if s, ok := impl.PrefixBytes(n, bits, first); s != "" || ok {
		t.Errorf("%s: %d by %d bits, %d: %x %v", why, n, bits, first, s, ok)
	}
}

func wantTaken(t *testing.T, s string, bits, n, above, size int) {
	t.Helper()
	if gotN, gotAbove, gotSize := impl.TakePrefix(s, bits); gotN != n || gotAbove != above || gotSize != size {
		t.Errorf("%.20x by %d bits: %d %d %d, not %d %d %d", s, bits, gotN, gotAbove, gotSize, n, above, size)
	}
}

func wantNotTaken(t *testing.T, s string, bits int, why string) {
	t.Helper()
	if n, above, size := impl.TakePrefix(s, bits); n != 0 || above != 0 || size != 0 {
		t.Errorf("%s: %.20x by %d bits: %d %d %d", why, s, bits, n, above, size)
	}
}

func TestPrefixesKnown(t *testing.T) {
	for _, c := range []struct {
		n, bits, first int
		bytes          string
	}{
		{10, 5, 0, "0a"},
		{1337, 5, 0, "1f9a0a"},
		{1337, 5, 224, "ff9a0a"},
		{42, 8, 0, "2a"},
		{0, 3, 0, "00"},
		{0, 3, 248, "f8"},
		{6, 3, 8, "0e"},
		{7, 3, 8, "0f00"},
		{8, 3, 8, "0f01"},
		{134, 3, 8, "0f7f"},
		{135, 3, 8, "0f8001"},
		{136, 3, 8, "0f8101"},
		{14, 4, 80, "5e"},
		{15, 4, 80, "5f00"},
		{15, 6, 192, "cf"},
		{62, 6, 192, "fe"},
		{63, 6, 192, "ff00"},
		{126, 7, 0, "7e"},
		{127, 7, 0, "7f00"},
		{128, 7, 128, "ff01"},
		{254, 8, 0, "fe"},
		{255, 8, 0, "ff00"},
		{256, 8, 0, "ff01"},
		{255 + 127, 8, 0, "ff7f"},
		{255 + 128, 8, 0, "ff8001"},
		{255 + 16383, 8, 0, "ffff7f"},
		{255 + 16384, 8, 0, "ff808001"},
		{255 + 2097151, 8, 0, "ffffff7f"},
		{255 + 2097152, 8, 0, "ff80808001"},
		{255 + 268435455, 8, 0, "ffffffff7f"},
		{255 + 268435456, 8, 0, "ff8080808001"},
		{mostPrefix, 8, 0, "ff8192ebdc03"},
		{mostPrefix, 3, 0, "07f993ebdc03"},
	} {
		wantPrefix(t, c.n, c.bits, c.first, unhex(c.bytes))
	}
}

func TestPrefixesOfEachWidth(t *testing.T) {
	for bits := 3; bits <= 8; bits++ {
		most := 1<<bits - 1
		numbers := []int{0, 1, 2, mostPrefix - 1, mostPrefix}
		for _, more := range []int{0, 1 << 7, 1 << 14, 1 << 21, 1 << 28} {
			numbers = append(numbers, most+more-2, most+more-1, most+more, most+more+1)
		}
		for _, n := range numbers {
			for _, first := range firstsOf(bits) {
				wantPrefix(t, n, bits, first, prefixElsewhere(n, bits, first))
			}
		}
	}
}

func TestPrefixesRefused(t *testing.T) {
	for bits := 3; bits <= 8; bits++ {
		for _, n := range []int{minInt, -mostPrefix, -2, -1, mostPrefix + 1, mostPrefix + 2, 1 << 32, 1<<32 + 1, 1 << 56, mostVarint, maxInt - 1, maxInt} {
			for _, first := range firstsOf(bits) {
				wantNoPrefix(t, n, bits, first, "n")
			}
		}
		for _, first := range []int{minInt, -256, -128, -1, 256, 257, 512, 1 << 32, maxInt - 255, maxInt} {
			wantNoPrefix(t, 1, bits, first, "first")
			wantNoPrefix(t, 1000, bits, first, "first")
		}
		for first := range 256 {
			if first%(1<<bits) != 0 {
				wantNoPrefix(t, 0, bits, first, "lowest bits of first")
				wantNoPrefix(t, 1000, bits, first, "lowest bits of first")
			}
		}
	}
	for _, bits := range noBits() {
		for _, first := range []int{0, 128, 192} {
			wantNoPrefix(t, 0, bits, first, "bits")
			wantNoPrefix(t, 1, bits, first, "bits")
			wantNoPrefix(t, mostPrefix, bits, first, "bits")
		}
	}
}

func noBits() []int {
	return []int{minInt, -64, -8, -3, -1, 0, 1, 2, 9, 10, 16, 62, 63, 64, 65, 67, 72, 1 << 32, maxInt}
}

func TestTakePrefixOfNoBits(t *testing.T) {
	for _, bits := range noBits() {
		for _, s := range []string{"", "\x00", "\x01", "\x05\x05", "\x7f\x00", "\xff\x00", "\xff\x9a\x0a"} {
			wantNotTaken(t, s, bits, "bits")
		}
	}
}

// Needless bytes of 128 may stand, as long as there are five bytes behind the first one at most.
func TestTakePrefixOfNeedlessBytes(t *testing.T) {
	for bits := 3; bits <= 8; bits++ {
		most := 1<<bits - 1
		for _, first := range firstsOf(bits) {
			head := string([]byte{byte(first + most)})
			for count := range 5 {
				needless := strings.Repeat("\x80", count)
				for _, behind := range []string{"", "\x00", "\x80", "more"} {
					wantTaken(t, head+needless+"\x00"+behind, bits, most, first, count+2)
					wantTaken(t, head+needless+"\x01"+behind, bits, most+1<<(7*count), first, count+2)
				}
				wantNotTaken(t, head+needless, bits, "cut off")
			}
			wantTaken(t, head+"\x8a\x80\x80\x80\x00", bits, most+10, first, 6)
			wantTaken(t, head+"\x8a\x81\x80\x00", bits, most+138, first, 5)
			for _, tail := range []string{"", "\x00", "\x01", "\x80", "\x80\x00", "\x80\x80\x80\x80\x80\x80\x80\x00", strings.Repeat("\x80", 3000)} {
				wantNotTaken(t, head+"\x80\x80\x80\x80\x80"+tail, bits, "six bytes behind")
				wantNotTaken(t, head+"\x81\x80\x80\x80\x80"+tail, bits, "six bytes behind")
			}
		}
	}
}

func TestTakePrefixUpToTheHighestNumber(t *testing.T) {
	for bits := 3; bits <= 8; bits++ {
		most := 1<<bits - 1
		for _, first := range firstsOf(bits) {
			for _, n := range []int{mostPrefix - 127, mostPrefix - 1, mostPrefix} {
				wantTaken(t, prefixElsewhere(n, bits, first), bits, n, first, 6)
			}
			for _, n := range []int{mostPrefix + 1, mostPrefix + 2, mostPrefix + 128, 1 << 30, 1<<31 - 1, 1 << 31, 1<<32 - 1, 1 << 32, most + 1<<32, most + 1<<35 - 1} {
				wantNotTaken(t, prefixElsewhere(n, bits, first), bits, fmt.Sprint(n))
			}
		}
	}
}

func TestPrefixesComeBack(t *testing.T) {
	var s steps
	var sizes [7]int
	for range 200000 {
		bits := 3 + s.below(6)
		n := s.below([]int{8, 300, 20000, 3000000, 300000000, mostPrefix + 1}[s.below(6)])
		firsts := firstsOf(bits)
		first := firsts[s.below(len(firsts))]
		told, ok := impl.PrefixBytes(n, bits, first)
		if told != prefixElsewhere(n, bits, first) || !ok {
			t.Fatalf("%d by %d bits, %d: %x %v", n, bits, first, told, ok)
		}
		sizes[len(told)]++
		if back, above, size := impl.TakePrefix(told+s.text(s.below(3)), bits); back != n || above != first || size != len(told) {
			t.Fatalf("%x by %d bits: %d %d %d, not %d %d", told, bits, back, above, size, n, first)
		}
	}
	for size, count := range sizes[1:] {
		if count < 2000 {
			t.Error(size+1, sizes)
		}
	}
}
