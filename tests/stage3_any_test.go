package tests

import (
	"strings"
	"testing"
	"unsafe"

	"loop.example/g00206/impl"
)

// bare is a text that lies in b, so that b shows if somebody writes into it.
func bare(b []byte) string {
	return unsafe.String(unsafe.SliceData(b), len(b))
}

// wantNew holds an answer against the texts it was made of: it lies in none of them.
func wantNew(t *testing.T, answer string, of ...string) {
	t.Helper()
	for _, s := range of {
		if overlaps(answer, s) {
			t.Errorf("%x lies in what was given", answer)
		}
	}
}

func TestCipherWritesIntoNothing(t *testing.T) {
	var s steps
	for range 300 {
		long := strings.Repeat(s.text(16), 8)
		key, block, text := []byte(s.text(16)), []byte(s.text(16)), []byte(long[:s.below(100)])
		kept := string(key) + string(block) + string(text)
		k, b, x := bare(key), bare(block), bare(text)

		column, ok := impl.MixColumn(b[:4])
		if !ok {
			t.Fatal("MixColumn")
		}
		wantNew(t, column, b)
		for _, f := range []func(string, string) (string, bool){impl.AesBlock, impl.AesBack} {
			answer, ok := f(k, b)
			same, _ := f(k, b)
			if !ok || answer != same {
				t.Fatalf("%x and then %x", answer, same)
			}
			wantNew(t, answer, k, b)
		}
		keys, ok := impl.RoundKeys(k)
		if !ok {
			t.Fatal("RoundKeys")
		}
		wantNew(t, keys, k)
		covered, ok := impl.AesCounter(k, b, x)
		if !ok {
			t.Fatal("AesCounter")
		}
		wantNew(t, covered, k, b, x)
		if string(key)+string(block)+string(text) != kept {
			t.Fatal("an argument is changed")
		}
	}
}

// A text and its start may be the same memory.
func TestCipherOfOneTextThrice(t *testing.T) {
	s := letters(16)
	covered := libraryBlock(t, s, s)
	if b, ok := impl.AesBlock(s, s); b != covered || !ok {
		t.Errorf("%x %v", b, ok)
	}
	if b, ok := impl.AesCounter(s, s, s); b != countedByHand(t, s, s, s) || !ok {
		t.Errorf("%x %v", b, ok)
	}
}

func TestCipherAtAnyLengths(t *testing.T) {
	var s steps
	for range 5000 {
		a, b, c := s.text(s.below(3)*s.below(18)), s.text(14+s.below(4)), s.text(s.below(2)*s.below(1700))
		for _, f := range []func(string, string) (string, bool){impl.AesBlock, impl.AesBack} {
			if out, ok := f(a, b); ok != (len(a) == 16 && len(b) == 16) || ok == (out == "") {
				t.Fatalf("%x, %x: %x %v", a, b, out, ok)
			}
		}
		if out, ok := impl.MixColumn(a); ok != (len(a) == 4) || ok == (out == "") {
			t.Fatalf("%x: %x %v", a, out, ok)
		}
		if out, ok := impl.RoundKeys(a); ok != (len(a) == 16) || ok == (out == "") {
			t.Fatalf("%x: %x %v", a, out, ok)
		}
		good := len(b) == 16 && len(c) <= impl.MaxPayload
		if out, ok := impl.AesCounter(letters(16), b, c); ok != good || good && len(out) != len(c) || !good && out != "" {
			t.Fatalf("%x, %x: %x %v", b, c, out, ok)
		}
	}
}
