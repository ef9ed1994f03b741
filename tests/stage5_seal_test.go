package tests

import (
	"crypto/aes"
	"crypto/cipher"
	"testing"

	"loop.example/g00206/impl"
)

// sealing is what SealText and the others are given, but for the text.
type sealing struct{ key, nonce, beside string }

func (s *steps) sealing(beside int) sealing {
	return sealing{s.text(16), s.text(12), s.text(beside)}
}

// librarySealed is what Go's own library makes of a text of any length.
func librarySealed(t *testing.T, by sealing, text string) string {
	t.Helper()
	c, err := aes.NewCipher([]byte(by.key))
	if err != nil {
		t.Fatal(err)
	}
	gcm, err := cipher.NewGCM(c)
	if err != nil {
		t.Fatal(err)
	}
	return string(gcm.Seal(nil, []byte(by.nonce), []byte(text), []byte(by.beside)))
}

// wantSealed holds all three functions to what is sealed, which is told elsewhere.
func wantSealed(t *testing.T, by sealing, text, sealed string) {
	t.Helper()
	if s, ok := impl.SealText(by.key, by.nonce, by.beside, text); s != sealed || !ok {
		t.Errorf("%d bytes beside %d: sealed %x %v, not %x", len(text), len(by.beside), s, ok, sealed)
	}
	end := len(sealed) - impl.TagSize
	if tag, ok := impl.TagOf(by.key, by.nonce, by.beside, sealed[:end]); tag != sealed[end:] || !ok {
		t.Errorf("%d bytes beside %d: tag %x %v, not %x", len(text), len(by.beside), tag, ok, sealed[end:])
	}
	if s, ok := impl.OpenText(by.key, by.nonce, by.beside, sealed); s != text || !ok {
		t.Errorf("%d bytes beside %d: opened %x %v", len(text), len(by.beside), s, ok)
	}
}

func wantShut(t *testing.T, by sealing, sealed, why string) {
	t.Helper()
	if s, ok := impl.OpenText(by.key, by.nonce, by.beside, sealed); s != "" || ok {
		t.Errorf("%d bytes beside %d, %s: opened %x %v", len(sealed), len(by.beside), why, s, ok)
	}
}

// wantRefused holds SealText and TagOf to what they answer where an argument is not as said.
func wantRefused(t *testing.T, by sealing, text, why string) {
	t.Helper()
	if s, ok := impl.SealText(by.key, by.nonce, by.beside, text); s != "" || ok {
		t.Errorf("%s: sealed %x %v", why, s, ok)
	}
	if s, ok := impl.TagOf(by.key, by.nonce, by.beside, text); s != "" || ok {
		t.Errorf("%s: tag %x %v", why, s, ok)
	}
}

func TestSealedToldElsewhere(t *testing.T) {
	const key, nonce = "feffe9928665731c6d6a8f9467308308", "cafebabefacedbaddecaf888"
	const text = "d9313225f88406e5a55909c5aff5269a 86a7a9531534f7da2e4c303d8a318a72" +
		"1c3c0c95956809532fcf0e2449a6b525 b16aedf5aa0de657ba637b39"
	const covered = "42831ec2217774244b7221b784d0d49c e3aa212f2c02a4e035c17e2329aca12e" +
		"21d514b25466931c7d8f6a5aac84aa05 1ba30b396a0aac973d58e091"
	for _, c := range [][5]string{
		{"00000000000000000000000000000000", "000000000000000000000000", "", "", "58e2fccefa7e3061367f1d57a4e7455a"},
		{"00000000000000000000000000000000", "000000000000000000000000", "", "00000000000000000000000000000000",
			"0388dace60b6a392f328c2b971b2fe78 ab6e47d42cec13bdf53a67b21257bddf"},
		{key, nonce, "", text + "1aafd255", covered + "473f5985 4d5c2af327cd64a62cf35abd2ba6fab4"},
		{key, nonce, "feedfacedeadbeeffeedfacedeadbeefabaddad2", text, covered + "5bc94fbc3221a5db94fae95ae7121a47"},
		// RFC 9001, A.4: the tag of a packet that asks to come again.
		{"be0c690b9f66575a1d766b54e368c84e", "461599d35d632bf2239825bb",
			"088394c8f03e515708 ff000000010008f067a5502a4262b5746f6b656e", "", "04a265ba2eff4d829058fb3f0f2496ba"},
		// RFC 9001, A.3: a server's first packet, its number being 1.
		{"cf3a5331653c364c88f0f379b6067e37", "0ac1493ca1905853b0bba03f", "c1000000010008f067a5502a4262b50040750001",
			"02000000000600405a020000560303eefce7f7b37ba1d1632e96677825ddf73988cfc79825df566dc5430b9a045a12" +
				"00130100002e00330024001d00209d3c940d89690b84d08a60993c144eca684d1081287c834d5311bcf32bb9da1a" +
				"002b00020304",
			"5a482cd0991cd25b0aac406a5816b6394100f37a1c69797554780bb38cc5a99f5ede4cf73c3ec2493a1839b3dbcba3f6" +
				"ea46c5b7684df3548e7ddeb9c3bf9c73cc3f3bded74b562bfb19fb84022f8ef4cdd93795d77d06edbb7aaf2f58891850" +
				"abbdca3d20398c276456cbc42158407dd074ee"},
	} {
		by := sealing{unhex(c[0]), unhex(c[1]), unhex(c[2])}
		wantSealed(t, by, unhex(c[3]), unhex(c[4]))
		if librarySealed(t, by, unhex(c[3])) != unhex(c[4]) {
			t.Errorf("not as the library has it: %s", c[4])
		}
	}
}

// The hash and the covers are those of the other functions, as the document puts them together.
func TestTagsByTheirParts(t *testing.T) {
	var s steps
	for range 100 {
		by, text := s.sealing(s.below(70)), s.text(s.below(70))
		h, _ := impl.AesBlock(by.key, noughts)
		covered, _ := impl.AesCounter(by.key, by.nonce+"\x00\x00\x00\x02", text)
		hashed := by.beside + noughts[:-len(by.beside)&15] + covered + noughts[:-len(covered)&15] +
			string([]byte{0, 0, 0, 0, 0, 0, byte(8 * len(by.beside) >> 8), byte(8 * len(by.beside))}) +
			string([]byte{0, 0, 0, 0, 0, 0, byte(8 * len(covered) >> 8), byte(8 * len(covered))})
		cover, _ := impl.AesBlock(by.key, by.nonce+"\x00\x00\x00\x01")
		wantSealed(t, by, text, covered+xorText(t, ghash(t, h, hashed), cover))
	}
}

func TestSealedOfTheEdges(t *testing.T) {
	var s steps
	lengths := []int{0, 1, 15, 16, 17, 31, 32, 33, 1487, 1488, 1499, impl.MaxPayload}
	for _, beside := range lengths {
		for _, n := range lengths {
			by, text := s.sealing(beside), s.text(n)
			wantSealed(t, by, text, librarySealed(t, by, text))
		}
	}
}

func TestSealedOfAnyTexts(t *testing.T) {
	var s steps
	for range 1000 {
		by, text := s.sealing(s.below(100)), s.text(s.below(100))
		wantSealed(t, by, text, librarySealed(t, by, text))
	}
}

// What is too long is sealed by the library, so that nothing but its length can be the fault.
func TestSealedOfTooMany(t *testing.T) {
	var s steps
	const most = impl.MaxPayload
	for _, c := range [][2]int{{most + 1, 0}, {0, most + 1}, {most + 1, most}, {most, most + 1}, {most + 1, most + 1}, {most + 16, 5}, {5, most + 16}, {9000, 0}, {0, 9000}} {
		by, text := s.sealing(c[0]), s.text(c[1])
		wantRefused(t, by, text, "too long")
		wantShut(t, by, librarySealed(t, by, text), "too long")
	}
}

func TestKeysAndNoncesOfOtherLengths(t *testing.T) {
	var s steps
	good := s.sealing(20)
	sealed := librarySealed(t, good, "a text")
	for _, n := range []int{0, 1, 11, 13, 15, 17, 24, 32, 1600} {
		by := good
		by.key = letters(n)
		wantRefused(t, by, "a text", "a key of another length")
		wantRefused(t, by, "", "a key of another length and no text")
		wantShut(t, by, sealed, "a key of another length")
		by.nonce = letters(n)
		wantRefused(t, by, "a text", "both of another length")
		wantShut(t, by, sealed, "both of another length")
		by.key = good.key
		wantRefused(t, by, "a text", "a nonce of another length")
		wantRefused(t, by, "", "a nonce of another length and no text")
		wantShut(t, by, sealed, "a nonce of another length")
	}
	// A nonce that is the block ahead of all counts is not one of twelve bytes.
	by := good
	by.nonce += "\x00\x00\x00\x00"
	wantRefused(t, by, "a text", "a nonce of sixteen bytes")
	wantShut(t, by, sealed, "a nonce of sixteen bytes")
	wantSealed(t, good, "a text", sealed)
}

func TestOpenedOfFew(t *testing.T) {
	var s steps
	by := s.sealing(7)
	tag := librarySealed(t, by, "")
	for n := range impl.TagSize {
		wantShut(t, by, tag[:n], "fewer than the tag")
		wantShut(t, by, tag[impl.TagSize-n:], "the end of the tag")
	}
	if text, ok := impl.OpenText(by.key, by.nonce, by.beside, tag); text != "" || !ok {
		t.Errorf("the tag alone: %x %v", text, ok)
	}
	wantShut(t, by, noughts, "noughts for a tag")
	wantShut(t, by, tag+tag, "the tag of another text")
}

// turned is s with its bit i turned about.
func turned(s string, i int) string {
	b := []byte(s)
	b[i/8] ^= 1 << (i % 8)
	return string(b)
}

func TestNotOpenedWithAnyBitTurned(t *testing.T) {
	var s steps
	for _, c := range [][2]int{{0, 0}, {0, 1}, {1, 0}, {15, 16}, {16, 15}, {17, 17}, {40, 60}} {
		by, text := s.sealing(c[0]), s.text(c[1])
		sealed := librarySealed(t, by, text)
		wantSealed(t, by, text, sealed)
		for i := range 8 * len(sealed) {
			wantShut(t, by, turned(sealed, i), "a bit of it turned")
		}
		for i := range 8 * len(by.nonce) {
			wantShut(t, sealing{by.key, turned(by.nonce, i), by.beside}, sealed, "a bit of the nonce turned")
		}
		for i := range 8 * len(by.beside) {
			wantShut(t, sealing{by.key, by.nonce, turned(by.beside, i)}, sealed, "a bit beside turned")
		}
		for i := range 8 * len(by.key) {
			wantShut(t, sealing{turned(by.key, i), by.nonce, by.beside}, sealed, "a bit of the key turned")
		}
	}
}

func TestNotOpenedWithABitTurnedOfTheLongest(t *testing.T) {
	var s steps
	by, text := s.sealing(impl.MaxPayload), s.text(impl.MaxPayload)
	sealed := librarySealed(t, by, text)
	for range 200 {
		wantShut(t, by, turned(sealed, s.below(8*len(sealed))), "a bit of it turned")
		wantShut(t, sealing{by.key, by.nonce, turned(by.beside, s.below(8*len(by.beside)))}, sealed, "a bit beside turned")
	}
	wantSealed(t, by, text, sealed)
}

// Noughts that fill up are not the same as noughts that are told: the lengths stand in the hash.
func TestNotOpenedWithNoughtsMore(t *testing.T) {
	var s steps
	by, text := s.sealing(5), s.text(5)
	sealed := librarySealed(t, by, text)
	covered, tag := sealed[:5], sealed[5:]
	for n := 1; n <= 11; n++ {
		wantShut(t, by, covered+noughts[:n]+tag, "noughts behind the text")
		wantShut(t, sealing{by.key, by.nonce, by.beside + noughts[:n]}, sealed, "noughts beside")
	}
	for n := 1; n < 5; n++ {
		wantShut(t, sealing{by.key, by.nonce, by.beside + covered[:n]}, covered[n:]+tag, "the cut elsewhere")
	}
	wantShut(t, by, tag+covered, "the tag ahead")
}
