package tests

import (
	"slices"
	"strings"
	"testing"

	"loop.example/g00206/impl"
)

// wantReadCapsules holds what is read of bytes, all together and in pieces.
func wantReadCapsules(t *testing.T, s string, want []impl.Capsule, size int) {
	t.Helper()
	if l, got, ok := impl.ReadCapsules(s); !slices.Equal(l, want) || got != size || !ok {
		t.Errorf("%x: %v %d %v, not %v %d", s, l, got, ok, want, size)
	}
	for _, pieces := range cuttings(s) {
		wantFeed(t, pieces, want, len(s)-size)
	}
}

func wantNoReadCapsules(t *testing.T, s, why string) {
	t.Helper()
	if l, size, ok := impl.ReadCapsules(s); len(l) != 0 || size != 0 || ok {
		t.Errorf("%s: %.200x: %v %d %v", why, s, l, size, ok)
	}
	for _, pieces := range cuttings(s) {
		wantNoFeed(t, pieces, why)
	}
}

// aheadOf tells the first capsules that are whole within so many bytes, and how many bytes they have.
func aheadOf(l []impl.Capsule, bytes int) ([]impl.Capsule, int) {
	for n := len(l); n > 0; n-- {
		if size := len(capsulesElsewhere(l[:n])); size <= bytes {
			return l[:n], size
		}
	}
	return nil, 0
}

func TestReadCapsulesOfNothing(t *testing.T) {
	wantReadCapsules(t, "", nil, 0)
	for b := range 256 { // a kind, or the beginning of one
		wantReadCapsules(t, string([]byte{byte(b)}), nil, 0)
	}
}

func TestReadCapsulesOfTwoBytes(t *testing.T) {
	for a := range 256 {
		for b := range 256 {
			s := string([]byte{byte(a), byte(b)})
			if a < 64 && b == 0 {
				wantReadCapsules(t, s, []impl.Capsule{capsule(a, "")}, 2)
			} else {
				wantReadCapsules(t, s, nil, 0)
			}
		}
	}
}

func TestReadCapsulesCutOff(t *testing.T) {
	for _, a := range someCapsules() {
		for _, b := range someCapsules() {
			l := []impl.Capsule{a, b}
			s := capsulesElsewhere(l)
			for size := range len(s) + 1 {
				want, whole := aheadOf(l, size)
				if l, got, ok := impl.ReadCapsules(s[:size]); !slices.Equal(l, want) || got != whole || !ok {
					t.Errorf("%x: %v %d %v, not %v %d", s[:size], l, got, ok, want, whole)
				}
			}
		}
	}
	l := someCapsules()
	s := capsulesElsewhere(l)
	for size := range len(s) + 1 {
		want, whole := aheadOf(l, size)
		wantReadCapsules(t, s[:size], want, whole)
	}
}

// Varints may have more bytes than they need, kinds and lengths alike.
func TestReadCapsulesWithNeedlessBytes(t *testing.T) {
	sizes := []int{1, 2, 4, 8}
	for _, kind := range []int{0, 1, 2, 63, 64, 16383, 16384, 1073741823, 1073741824, mostVarint} {
		for _, length := range []int{0, 1, 2, 63, 64, 199, 200} {
			for _, kindSize := range sizes {
				for _, lengthSize := range sizes {
					if kindSize < len(leastVarint(kind)) || lengthSize < len(leastVarint(length)) {
						continue
					}
					s := varint(kind, kindSize) + varint(length, lengthSize) + letters(length)
					c := capsule(kind, letters(length))
					wantReadCapsules(t, s, []impl.Capsule{c}, len(s))
					wantReadCapsules(t, s[:len(s)-1], nil, 0)
					wantReadCapsules(t, "\x00\x02hi"+s+"\x01\x00\x40", []impl.Capsule{capsule(0, "hi"), c, capsule(1, "")}, len(s)+6)
				}
			}
		}
	}
}

// A length that is too great is told as soon as all its bytes are there, whether the data are or not.
func TestReadCapsulesOfLengthsTooGreat(t *testing.T) {
	for _, length := range []int{201, 202, 255, 256, 456, 1000, 1500, 16383, 16384, 65536, 1073741823, 1073741824, 4294967296, 4294967297, mostVarint - 1, mostVarint} {
		for _, size := range []int{2, 4, 8} {
			if size < len(leastVarint(length)) {
				continue
			}
			told := varint(length, size)
			for _, kind := range []string{"\x00", "\x01", "\x02", varint(0, 8), leastVarint(mostVarint)} {
				for _, before := range []string{"", "0:", "0:hi", "70:\x00\x40\xff"} {
					want := capsules(before)
					ahead := capsulesElsewhere(want)
					for n := range size {
						wantReadCapsules(t, ahead+kind+told[:n], want, len(ahead))
					}
					wantNoReadCapsules(t, ahead+kind+told, "a length")
					wantNoReadCapsules(t, ahead+kind+told+"a", "a length and a byte")
					wantNoReadCapsules(t, ahead+kind+told+"\x00\x00\x00\x00", "a length and capsules")
					wantNoReadCapsules(t, ahead+kind+told+letters(min(length, 1400)), "a length and data")
				}
			}
		}
	}
	for _, size := range []int{2, 4, 8} { // the greatest length that is none too great
		s := "\x02" + varint(200, size)
		wantReadCapsules(t, s, nil, 0)
		wantReadCapsules(t, s+letters(199), nil, 0)
		wantReadCapsules(t, s+letters(200), []impl.Capsule{capsule(2, letters(200))}, 201+size)
	}
}

func TestReadCapsulesOfThirtyAndMore(t *testing.T) {
	for _, c := range []impl.Capsule{capsule(0, ""), capsule(0, "a"), capsule(5, ""), capsule(64, "abc"), capsule(mostVarint, letters(30))} {
		one := capsulesElsewhere([]impl.Capsule{c})
		for n := 28; n <= 30; n++ {
			s := strings.Repeat(one, n)
			wantReadCapsules(t, s, slices.Repeat([]impl.Capsule{c}, n), len(s))
		}
		thirty := strings.Repeat(one, 30)
		want := slices.Repeat([]impl.Capsule{c}, 30)
		for _, next := range someCapsules() {
			more := capsulesElsewhere([]impl.Capsule{next})
			for size := range len(more) {
				wantReadCapsules(t, thirty+more[:size], want, len(thirty))
			}
			wantNoReadCapsules(t, thirty+more, "thirty-one")
			wantNoReadCapsules(t, thirty+more+"\x00", "thirty-one and a byte")
			wantNoReadCapsules(t, thirty+more+"\x00\x00", "thirty-two")
			wantNoReadCapsules(t, thirty+more+more, "thirty-two")
		}
		wantNoReadCapsules(t, thirty+"\x00\x40\xc9", "thirty and a length too great")
		wantNoReadCapsules(t, thirty+"\x00\xff\xff\xff\xff\xff\xff\xff\xff", "thirty and a length too great")
	}
	wantNoReadCapsules(t, strings.Repeat("\x00\x00", 750), "many")
	wantNoReadCapsules(t, strings.Repeat("\x00", 1499), "many")
}

func TestReadCapsulesOfMostBytes(t *testing.T) {
	l := append(manyCapsules(7, 200), capsule(2, letters(76))) // 7 times 203, and 79
	s := capsulesElsewhere(l)
	if len(s) != 1500 {
		t.Fatal(len(s))
	}
	wantReadCapsules(t, s, l, 1500)
	wantNoReadCapsules(t, s+"\x00", "a byte too many")
	wantNoReadCapsules(t, s+"\x00\x00", "a capsule too many")
	wantNoReadCapsules(t, s+s, "twice the bytes")
	wantNoReadCapsules(t, strings.Repeat("\x00", 30000), "many bytes")
	for beyond := 1; beyond <= 80; beyond++ {
		most := "\xc0" + strings.Repeat("\x00", 7) + "\x40\xc8" + letters(200) // 210 bytes
		text := strings.Repeat(most, 7) + "\x00\x1d" + letters(28)
		want := slices.Repeat([]impl.Capsule{capsule(0, letters(200))}, 7)
		wantReadCapsules(t, text, want, 1470)
		wantNoReadCapsules(t, text+letters(beyond), "bytes too many")
	}
}
