package tests

import (
	"strings"
	"testing"

	"loop.example/g00206/impl"
)

func TestCountedToldElsewhere(t *testing.T) {
	plain := "6bc1bee22e409f96e93d7e117393172a ae2d8a571e03ac9c9eb76fac45af8e51" +
		"30c81c46a35ce411e5fbc1191a0a52ef f69f2445df4f9b17ad2b417be66c3710"
	covered := "874d6191b620e3261bef6864990db6ce 9806f66b7970fdff8617187bb9fffdff" +
		"5ae4df3edbd5d35e5b4f09020db03eab 1e031dda2fbe03d1792170a0f3009cee"
	start := unhex("f0f1f2f3f4f5f6f7f8f9fafbfcfdfeff")
	for n := range 65 {
		text, want := unhex(plain)[:n], unhex(covered)[:n]
		if s, ok := impl.AesCounter(unhex(exampleKey), start, text); s != want || !ok {
			t.Errorf("%d bytes: %x %v", n, s, ok)
		}
	}
	for _, c := range [][4]string{
		{"ae6852f8121067cc4bf7a5765577f39e", "00000030000000000000000000000001",
			"53696e676c6520626c6f636b206d7367", "e4095d4fb7a7b3792d6175a3261311b8"},
		{"7e24067817fae0d743d6ce1f32539163", "006cb6dbc0543b59da48d90b00000001",
			"000102030405060708090a0b0c0d0e0f101112131415161718191a1b1c1d1e1f",
			"5104a106168a72d9790d41ee8edad388eb2e1efc46da57c8fce630df9141be28"},
	} {
		if s, ok := impl.AesCounter(unhex(c[0]), unhex(c[1]), unhex(c[2])); s != unhex(c[3]) || !ok {
			t.Errorf("%s: %x %v", c[0], s, ok)
		}
	}
}

// countedByHand takes the cover from Go's own library, and the count as one number modulo 2^32.
func countedByHand(t *testing.T, key, start, text string) string {
	t.Helper()
	count := uint32(start[12])<<24 | uint32(start[13])<<16 | uint32(start[14])<<8 | uint32(start[15])
	out := []byte(text)
	for from := 0; from < len(out); from += 16 {
		at := start[:12] + string([]byte{byte(count >> 24), byte(count >> 16), byte(count >> 8), byte(count)})
		cover := libraryBlock(t, key, at)
		for i := from; i < len(out) && i < from+16; i++ {
			out[i] ^= cover[i-from]
		}
		count++
	}
	return string(out)
}

// The count runs over in each of the four bytes, and behind the fourth nothing is carried on.
func TestCountRunsOverInFourBytesAlone(t *testing.T) {
	key := letters(16)
	for _, last := range []string{"000000ff", "0000ffff", "00ffffff", "ffffffff", "fffffffe", "7fffffff", "fffffff8", "12fffffd"} {
		for _, first := range []string{"000000000000000000000000", "ffffffffffffffffffffffff", "0102030405060708090a0bff"} {
			start := unhex(first + last)
			text := strings.Repeat("\x00", 200)
			if s, ok := impl.AesCounter(key, start, text); s != countedByHand(t, key, start, text) || !ok {
				t.Errorf("%s %s: %x %v", first, last, s, ok)
			}
		}
	}
	over, ok := impl.AesCounter(key, "abcdefghijkl\xff\xff\xff\xff", strings.Repeat("\x00", 32))
	a, _ := impl.AesBlock(key, "abcdefghijkl\xff\xff\xff\xff")
	b, _ := impl.AesBlock(key, "abcdefghijkl\x00\x00\x00\x00")
	if over != a+b || !ok {
		t.Errorf("%x %v, not %x", over, ok, a+b)
	}
}

func TestCountedTextsOfAllLengths(t *testing.T) {
	var s steps
	text := s.text(impl.MaxPayload)
	key, start := s.text(16), s.text(16)
	all := countedByHand(t, key, start, text)
	for n := range len(text) + 1 {
		covered, ok := impl.AesCounter(key, start, text[:n])
		if covered != all[:n] || !ok {
			t.Fatalf("%d bytes: %x %v", n, covered, ok)
		}
		if n%50 == 0 || n > 1480 {
			if back, ok := impl.AesCounter(key, start, covered); back != text[:n] || !ok {
				t.Fatalf("%d bytes: counted twice %x %v", n, back, ok)
			}
		}
	}
	for _, n := range []int{impl.MaxPayload + 1, impl.MaxPayload + 16, 2 * impl.MaxPayload} {
		if s, ok := impl.AesCounter(key, start, letters(n)); s != "" || ok {
			t.Errorf("%d bytes: %d of them, %v", n, len(s), ok)
		}
	}
}

func TestCountedTwiceIsItself(t *testing.T) {
	var s steps
	for range 2000 {
		key, start, text := s.text(16), s.text(16), s.text(s.below(120))
		covered, ok := impl.AesCounter(key, start, text)
		if covered != countedByHand(t, key, start, text) || !ok {
			t.Fatalf("%x, %x, %x: %x %v", key, start, text, covered, ok)
		}
		if back, ok := impl.AesCounter(key, start, covered); back != text || !ok {
			t.Fatalf("%x, %x, %x: counted twice %x %v", key, start, text, back, ok)
		}
	}
}
