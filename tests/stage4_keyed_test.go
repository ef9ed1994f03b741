package tests

import (
	"crypto/hkdf"
	"crypto/hmac"
	"crypto/sha256"
	"strings"
	"testing"

	"loop.example/g00206/impl"
)

func libraryKeyed(key, s string) string {
	h := hmac.New(sha256.New, []byte(key))
	h.Write([]byte(s))
	return string(h.Sum(nil))
}

func libraryExpand(t *testing.T, secret, info string, n int) string {
	t.Helper()
	derived, err := hkdf.Expand(sha256.New, []byte(secret), info, n)
	if err != nil {
		t.Fatal(err)
	}
	return string(derived)
}

// keyedByHand is RFC 2104 over the program's own hash.
func keyedByHand(t *testing.T, key, s string) string {
	t.Helper()
	hash := func(s string) string {
		h, ok := impl.Sha256(s)
		if !ok {
			t.Fatalf("no hash of %d bytes", len(s))
		}
		return h
	}
	if len(key) > 64 {
		key = hash(key)
	}
	var inner, outer strings.Builder
	for _, b := range []byte(key + strings.Repeat("\x00", 64-len(key))) {
		inner.WriteByte(b ^ 0x36)
		outer.WriteByte(b ^ 0x5c)
	}
	return hash(outer.String() + hash(inner.String()+s))
}

func TestKeyedHashesToldElsewhere(t *testing.T) {
	for _, c := range [][3]string{
		{strings.Repeat("\x0b", 20), "Hi There", "b0344c61d8db38535ca8afceaf0bf12b881dc200c9833da726e9376c2e32cff7"},
		{"Jefe", "what do ya want for nothing?", "5bdcc146bf60754e6a042426089575c75a003f089d2739839dec58b964ec3843"},
		{strings.Repeat("\xaa", 20), strings.Repeat("\xdd", 50), "773ea91e36800e46854db8ebd09181a72959098b3ef8c122d9635514ced565fe"},
		{unhex("0102030405060708090a0b0c0d0e0f10111213141516171819"), strings.Repeat("\xcd", 50), "82558a389a443c0ea4cc819899f2083a85f0faa3e578f8077a2e3ff46729665b"},
		{strings.Repeat("\xaa", 131), "Test Using Larger Than Block-Size Key - Hash Key First", "60e431591ee0b67f0d8a26aacbf5b77f8e0bc6213728c5140546040f0ee37f54"},
		{strings.Repeat("\xaa", 131), "This is a test using a larger than block-size key and a larger than block-size data. The key needs to be hashed before being used by the HMAC algorithm.", "9b09ffa71b942fcb27635fbcd5b0e944bfdc63644f0713938a7f51535c3a35e2"},
	} {
		if s, ok := impl.HmacSha(c[0], c[1]); s != unhex(c[2]) || !ok {
			t.Errorf("%q: %x %v", c[1], s, ok)
		}
		if s, ok := impl.HkdfExtract(c[0], c[1]); s != unhex(c[2]) || !ok {
			t.Errorf("extracted, %q: %x %v", c[1], s, ok)
		}
	}
}

func TestKeyedHashOfTheEdges(t *testing.T) {
	var s steps
	lengths := []int{0, 1, 31, 32, 33, 55, 56, 63, 64, 65, 66, 119, 120, 128, 1999, 2000}
	for _, k := range lengths {
		for _, n := range lengths {
			key, text := s.text(k), s.text(n)
			hash, ok := impl.HmacSha(key, text)
			if hash != libraryKeyed(key, text) || hash != keyedByHand(t, key, text) || !ok {
				t.Errorf("%d, %d: %x %v", k, n, hash, ok)
			}
			extracted, ok := impl.HkdfExtract(key, text)
			if extracted != hash || !ok {
				t.Errorf("extracted, %d, %d: %x %v", k, n, extracted, ok)
			}
		}
	}
}

func TestKeyedHashNotAsSaid(t *testing.T) {
	for _, c := range [][2]int{{2001, 0}, {2001, 10}, {0, 2001}, {10, 2001}, {2000, 2001}, {2001, 2000}, {2001, 2001}, {9000, 3}, {3, 9000}} {
		key, text := letters(c[0]), letters(c[1])
		if hash, ok := impl.HmacSha(key, text); hash != "" || ok {
			t.Errorf("%v: %x %v", c, hash, ok)
		}
		if hash, ok := impl.HkdfExtract(key, text); hash != "" || ok {
			t.Errorf("extracted, %v: %x %v", c, hash, ok)
		}
	}
}

// A key that is filled up is the same key; one of 65 bytes is hashed first, also where its last byte is 0.
func TestKeysFilledUpOrHashed(t *testing.T) {
	short, ok := impl.HmacSha("key", "text")
	filled, alsoOk := impl.HmacSha("key"+strings.Repeat("\x00", 61), "text")
	if short != filled || !ok || !alsoOk {
		t.Errorf("%x and %x", short, filled)
	}
	longer, ok := impl.HmacSha("key"+strings.Repeat("\x00", 62), "text")
	if longer == short || !ok {
		t.Errorf("a key of 65 bytes is not hashed: %x", longer)
	}
	hashed, _ := impl.Sha256("key" + strings.Repeat("\x00", 62))
	same, ok := impl.HmacSha(hashed, "text")
	if same != longer || !ok {
		t.Errorf("%x and %x", same, longer)
	}
}

func TestDerivedToldElsewhere(t *testing.T) {
	long := func(from, to int) string {
		var b []byte
		for i := from; i <= to; i++ {
			b = append(b, byte(i))
		}
		return string(b)
	}
	for _, c := range []struct{ salt, secret, info, extracted, expanded string }{
		{long(0, 12), strings.Repeat("\x0b", 22), long(0xf0, 0xf9),
			"077709362c2e32df0ddc3f0dc47bba6390b6c73bb50f9c3122ec844ad7c2b3e5",
			"3cb25f25faacd57a90434f64d0362f2a2d2d0a90cf1a5a4c5db02d56ecc4c5bf34007208d5b887185865"},
		{long(0x60, 0xaf), long(0, 0x4f), long(0xb0, 0xff),
			"06a6b88c5853361a06104c9ceb35b45cef760014904671014a193f40c15fc244",
			"b11e398dc80327a1c8e7f78c596a49344f012eda2d4efad8a050cc4c19afa97c" +
				"59045a99cac7827271cb41c65e590e09da3275600c2f09b8367793a9aca3db71" +
				"cc30c58179ec3e87c14c01d5c1f3434f1d87"},
		{"", strings.Repeat("\x0b", 22), "",
			"19ef24a32c717b167f33a91d6f648bdf96596776afdb6377ac434c1c293ccb04",
			"8da4e775a563c18f715f802a063c5a31b8a11f5c5ee1879ec3454e5f3c738d2d9d201395faa4b61a96c8"},
	} {
		extracted, ok := impl.HkdfExtract(c.salt, c.secret)
		if extracted != unhex(c.extracted) || !ok {
			t.Errorf("extracted: %x %v", extracted, ok)
		}
		expanded := unhex(c.expanded)
		if s, ok := impl.HkdfExpand(unhex(c.extracted), c.info, len(expanded)); s != expanded || !ok {
			t.Errorf("expanded: %x %v", s, ok)
		}
	}
}

func TestDerivedOfFewerIsTheBeginning(t *testing.T) {
	var s steps
	for range 20 {
		secret, info := s.text(s.below(200)), s.text(s.below(200))
		most, ok := impl.HkdfExpand(secret, info, 255)
		if most != libraryExpand(t, secret, info, 255) || !ok {
			t.Fatalf("%x, %x: %x %v", secret, info, most, ok)
		}
		for n := range 256 {
			if part, ok := impl.HkdfExpand(secret, info, n); part != most[:n] || !ok {
				t.Fatalf("%x, %x, %d: %x %v", secret, info, n, part, ok)
			}
		}
	}
}

func TestDerivedOfTheEdges(t *testing.T) {
	var s steps
	for _, k := range []int{0, 32, 64, 65, 499, 500} {
		for _, i := range []int{0, 1, 22, 23, 31, 499, 500} {
			for _, n := range []int{0, 1, 31, 32, 33, 64, 65, 224, 225, 254, 255} {
				secret, info := s.text(k), s.text(i)
				derived, ok := impl.HkdfExpand(secret, info, n)
				if derived != libraryExpand(t, secret, info, n) || len(derived) != n || !ok {
					t.Errorf("%d, %d, %d: %x %v", k, i, n, derived, ok)
				}
			}
		}
	}
}

func TestDerivedNotAsSaid(t *testing.T) {
	for _, c := range [][3]int{
		{32, 10, -1}, {32, 10, 256}, {32, 10, minInt}, {32, 10, maxInt}, {0, 0, -1}, {0, 0, 256},
		{501, 10, 32}, {32, 501, 32}, {501, 501, 32}, {500, 501, 0}, {501, 500, 0}, {9000, 1, 1}, {1, 9000, 1}, {501, 501, -1},
	} {
		if derived, ok := impl.HkdfExpand(letters(c[0]), letters(c[1]), c[2]); derived != "" || ok {
			t.Errorf("%v: %x %v", c, derived, ok)
		}
	}
}

// labelInfo is the info of a label as the document has it.
func labelInfo(label string, n int) string {
	return string([]byte{byte(n / 256), byte(n % 256), byte(6 + len(label))}) + "tls13 " + label + "\x00"
}

func TestLabelsToldElsewhere(t *testing.T) {
	client := "c00cf151ca5be075ed0ebfb5c80323c42d6b7db67881289af4008f1f6c357aea"
	server := "3c199828fd139efd216c155ad844cc81fb82fa8d7446fa7d78be803acdda951b"
	for _, c := range [][3]string{
		{client, "quic key", "1f369613dd76d5467730efcbe3b1a22d"},
		{client, "quic iv", "fa044b2f42a3fd3b46fb255c"},
		{client, "quic hp", "9f50449e04a0e810283a1e9933adedd2"},
		{server, "quic key", "cf3a5331653c364c88f0f379b6067e37"},
		{server, "quic iv", "0ac1493ca1905853b0bba03e"},
		{server, "quic hp", "c206b8d9b9f0f37644430b490eeaa314"},
		{"9ac312a7f877468ebe69422748ad00a15443f18203a07d6060f688f30f21632b", "quic ku", "1223504755036d556342ee9361d253421a826c9ecdf3c7148684b36b714881f9"},
	} {
		want := unhex(c[2])
		if s, ok := impl.ExpandLabel(unhex(c[0]), c[1], len(want)); s != want || !ok {
			t.Errorf("%s: %x %v", c[1], s, ok)
		}
	}
}

func TestLabelsOfTheEdges(t *testing.T) {
	var s steps
	for _, size := range []int{0, 1, 39, 40} {
		for _, k := range []int{0, 32, 65, 500} {
			for _, n := range []int{0, 1, 32, 33, 255} {
				secret, label := s.text(k), s.text(size)
				derived, ok := impl.ExpandLabel(secret, label, n)
				if derived != libraryExpand(t, secret, labelInfo(label, n), n) || !ok {
					t.Errorf("%d, %d, %d: %x %v", size, k, n, derived, ok)
				}
			}
		}
	}
}

// How many bytes are asked for stands in the info, so that fewer of them are no beginning here.
func TestLabelsTellTheLength(t *testing.T) {
	short, ok := impl.ExpandLabel("secret", "quic key", 16)
	long, alsoOk := impl.ExpandLabel("secret", "quic key", 32)
	if strings.HasPrefix(long, short) || !ok || !alsoOk {
		t.Errorf("%x and %x", short, long)
	}
}

func TestLabelsNotAsSaid(t *testing.T) {
	for _, c := range [][3]int{
		{32, 41, 32}, {32, 41, 0}, {0, 100, 1}, {501, 40, 32}, {501, 41, 32}, {32, 8, -1}, {32, 8, 256}, {32, 40, 257},
		{32, 8, minInt}, {32, 8, maxInt}, {32, 9000, 32}, {9000, 8, 32}, {32, 8, 65536 + 32},
	} {
		if derived, ok := impl.ExpandLabel(letters(c[0]), letters(c[1]), c[2]); derived != "" || ok {
			t.Errorf("%v: %x %v", c, derived, ok)
		}
	}
}

func TestSecretsToldElsewhere(t *testing.T) {
	client, server, ok := impl.InitialSecrets(unhex("8394c8f03e515708"))
	if client != unhex("c00cf151ca5be075ed0ebfb5c80323c42d6b7db67881289af4008f1f6c357aea") ||
		server != unhex("3c199828fd139efd216c155ad844cc81fb82fa8d7446fa7d78be803acdda951b") || !ok {
		t.Errorf("%x %x %v", client, server, ok)
	}
}

func TestSecretsOfTheEdges(t *testing.T) {
	var s steps
	for n := range impl.MaxId + 1 {
		id := s.text(n)
		secret := libraryKeyed(unhex("38762cf7f55934b34d179ae6a4c80cadccbb7f0a"), id)
		client, server, ok := impl.InitialSecrets(id)
		if client != libraryExpand(t, secret, labelInfo("client in", 32), 32) ||
			server != libraryExpand(t, secret, labelInfo("server in", 32), 32) || !ok {
			t.Errorf("%d bytes: %x %x %v", n, client, server, ok)
		}
	}
	for _, n := range []int{impl.MaxId + 1, 22, 64, 2000, 2001, 9000} {
		if client, server, ok := impl.InitialSecrets(letters(n)); client != "" || server != "" || ok {
			t.Errorf("%d bytes: %x %x %v", n, client, server, ok)
		}
	}
}
