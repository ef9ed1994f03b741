package tests

import (
	"testing"

	"loop.example/g00206/impl"
)

func TestProductsWriteIntoNothing(t *testing.T) {
	var s steps
	for range 300 {
		first, second, text := []byte(s.text(16)), []byte(s.text(16)), []byte(s.text(16*s.below(6)))
		kept := string(first) + string(second) + string(text)
		a, b, x := bare(first), bare(second), bare(text)
		answers := map[string]func() (string, bool){
			"MulBlock":        func() (string, bool) { return impl.MulBlock(a, b) },
			"MulBlock by one": func() (string, bool) { return impl.MulBlock(a, power(0)) },
			"MulBlock alike":  func() (string, bool) { return impl.MulBlock(a, a) },
			"Ghash":           func() (string, bool) { return impl.Ghash(a, x) },
			"Ghash of itself": func() (string, bool) { return impl.Ghash(a, a) },
			"XorText":         func() (string, bool) { return impl.XorText(a, b) },
			"XorText, noughts": func() (string, bool) {
				return impl.XorText(x, string(make([]byte, len(x))))
			},
			"XorText, noughts first": func() (string, bool) {
				return impl.XorText(string(make([]byte, len(x))), x)
			},
			"XorText of itself": func() (string, bool) { return impl.XorText(x, x) },
		}
		for name, f := range answers {
			answer, ok := f()
			same, _ := f()
			if !ok || answer != same {
				t.Fatalf("%s: %x and then %x, %v", name, answer, same, ok)
			}
			wantNew(t, answer, a, b, x)
		}
		if string(first)+string(second)+string(text) != kept {
			t.Fatal("an argument is changed")
		}
	}
}

func TestSealingWritesIntoNothing(t *testing.T) {
	var s steps
	for range 300 {
		// All arguments lie in one memory, so that what is written behind one of them shows in the next.
		beside, n := s.below(40), s.below(40)
		all := []byte(s.text(16 + 12 + beside + n + 16))
		key, nonce, next, text := all[:16], all[16:28], all[28:28+beside], all[28+beside:28+beside+n]
		by := sealing{bare(key), bare(nonce), bare(next)}
		sealed := librarySealed(t, by, string(text))
		copy(all[28+beside+n:], sealed[n:])
		kept := string(all)

		answer, ok := impl.SealText(by.key, by.nonce, by.beside, bare(text))
		if answer != sealed || !ok {
			t.Fatalf("sealed %x %v", answer, ok)
		}
		wantNew(t, answer, bare(all))
		copy(text, sealed)
		tag, ok := impl.TagOf(by.key, by.nonce, by.beside, bare(text))
		if tag != sealed[n:] || !ok {
			t.Fatalf("tag %x %v", tag, ok)
		}
		wantNew(t, tag, bare(all))
		opened, ok := impl.OpenText(by.key, by.nonce, by.beside, bare(all[28+beside:]))
		if opened != kept[28+beside:28+beside+n] || !ok {
			t.Fatalf("opened %x %v", opened, ok)
		}
		wantNew(t, opened, bare(all))
		all[len(all)-1] ^= 1
		wantShut(t, by, bare(all[28+beside:]), "the last bit turned")
		all[len(all)-1] ^= 1
		copy(text, opened)
		if string(all) != kept {
			t.Fatal("an argument is changed")
		}
	}
}

// One memory may be the key, what is beside and the text.
func TestSealingOfOneTextThrice(t *testing.T) {
	s := letters(16)
	by := sealing{s, s[:12], s}
	wantSealed(t, by, s, librarySealed(t, by, s))
}

func TestSealingAtAnyLengths(t *testing.T) {
	var s steps
	for range 3000 {
		key, nonce := letters(15+s.below(3)), letters(11+s.below(3))
		beside, text := letters(s.below(2)*s.below(1700)), letters(s.below(2)*s.below(1700))
		good := len(key) == 16 && len(nonce) == 12 && len(beside) <= impl.MaxPayload && len(text) <= impl.MaxPayload
		sealed, ok := impl.SealText(key, nonce, beside, text)
		if ok != good || good && len(sealed) != len(text)+impl.TagSize || !good && sealed != "" {
			t.Fatalf("SealText, %d, %d, %d, %d: %x %v", len(key), len(nonce), len(beside), len(text), sealed, ok)
		}
		if tag, ok := impl.TagOf(key, nonce, beside, text); ok != good || good == (tag == "") {
			t.Fatalf("TagOf, %d, %d, %d, %d: %x %v", len(key), len(nonce), len(beside), len(text), tag, ok)
		}
		// No tag of these is guessed by letters.
		wantShut(t, sealing{key, nonce, beside}, text, "letters")
	}
}

func TestProductsAtAnyLengths(t *testing.T) {
	var s steps
	for range 5000 {
		a, b, c := letters(14+s.below(4)), letters(14+s.below(4)), letters(s.below(2)*s.below(3300))
		if p, ok := impl.MulBlock(a, b); ok != (len(a) == 16 && len(b) == 16) || ok == (p == "") {
			t.Fatalf("MulBlock, %d, %d: %x %v", len(a), len(b), p, ok)
		}
		if s.below(2) == 0 {
			c = c[:len(c)/16*16]
		}
		if y, ok := impl.Ghash(a, c); ok != (len(a) == 16 && len(c)%16 == 0 && len(c) <= 3200) || ok == (y == "") {
			t.Fatalf("Ghash, %d, %d: %x %v", len(a), len(c), y, ok)
		}
		if x, ok := impl.XorText(a, b); ok != (len(a) == len(b)) || ok == (x == "") {
			t.Fatalf("XorText, %d, %d: %x %v", len(a), len(b), x, ok)
		}
	}
}
