package tests

import (
	"strings"
	"testing"

	"loop.example/g00206/impl"
)

// minting is what MintToken is given.
type minting struct {
	key, nonce, address string
	m                   impl.Minted
}

// plainMinting is as said.
func plainMinting() minting {
	return minting{"0123456789abcdef", "nonce of 12.", "addr", impl.Minted{Dcid: "orig", Time: 7}}
}

// sealedToken is a token of any first byte and any text, made by Go's own library.
func sealedToken(t *testing.T, first byte, key, nonce, address, text string) string {
	t.Helper()
	mark := string([]byte{first})
	return mark + nonce + librarySealed(t, sealing{key, nonce, mark + address}, text)
}

func tokenElsewhere(t *testing.T, g minting) string {
	t.Helper()
	first := byte(0)
	if g.m.New {
		first = 1
	}
	return sealedToken(t, first, g.key, g.nonce, g.address, numberElsewhere(g.m.Time, 8)+g.m.Dcid)
}

func wantToken(t *testing.T, g minting, want string) {
	t.Helper()
	if s, ok := impl.MintToken(g.key, g.nonce, g.address, g.m); s != want || !ok {
		t.Errorf("%#v: %x %v, not %x", g, s, ok, want)
	}
}

func wantNoToken(t *testing.T, g minting, why string) {
	t.Helper()
	if s, ok := impl.MintToken(g.key, g.nonce, g.address, g.m); s != "" || ok {
		t.Errorf("%s: %#v: %x %v", why, g, s, ok)
	}
}

func TestTokenLimits(t *testing.T) {
	if impl.MaxAddress != 18 || impl.MaxTime != 1000000000 || impl.MaxLife != 1000000 {
		t.Error(impl.MaxAddress, impl.MaxTime, impl.MaxLife)
	}
	for i, code := range []int{impl.TokenOk, impl.TokenBad, impl.TokenForm, impl.TokenSeal, impl.TokenTime} {
		if code != i {
			t.Error(i, code)
		}
	}
}

// The tokens were reckoned by an AES in Galois/counter mode written in Python.
func TestTokensToldElsewhere(t *testing.T) {
	for _, c := range []struct {
		g    minting
		want string
	}{
		{plainMinting(), "00 6e6f6e6365206f662031322e b4f618f236dac817 39b7f22f e74fae928644be1956f0a1cce123f09e"},
		{minting{"0123456789abcdef", "nonce of 12.", "addr", impl.Minted{Dcid: "orig", Time: 7, New: true}},
			"01 6e6f6e6365206f662031322e b4f618f236dac817 39b7f22f 8a8610494a52e18b6e3cf3944cf88db7"},
		{minting{noughts, noughts[:12], "\x00", impl.Minted{}},
			"00 000000000000000000000000 0388dace60b6a392 877ae793924049a939fdfa0012698efb"},
		{minting{strings.Repeat("\xff", 16), strings.Repeat("\xff", 12), strings.Repeat("\xff", 18), impl.Minted{Dcid: strings.Repeat("\xff", 20), Time: 1000000000, New: true}},
			"01 ffffffffffffffffffffffff db245437c1d0b42a 6aa17e2902c046c9c36cfb7b8b7c6b4c2a9717f6 d7c5c349adf94378a3982ed36c970646"},
		{minting{letters(16), letters(12), letters(18), impl.Minted{Dcid: letters(20), Time: 123456789}},
			"00 6162636465666768696a6162 462a7fe25ab8cddd 1d716506245a32124906e9f7f22f1489bb22a2a3 40a4b39d3fb531d00b295c15d7ab623f"},
		{minting{unhex("8f95f09245765f80256934e50c66207f"), unhex("0102030405060708090a0b0c"), unhex("c0000207115c"), impl.Minted{Dcid: unhex("8394c8f03e515708"), Time: 65536, New: true}},
			"01 0102030405060708090a0b0c c543962cdb02905b 4c6e4fea172b0545 56bcb45d48fc1f13d68118a55dee91fd"},
	} {
		want := unhex(c.want)
		wantToken(t, c.g, want)
		if tokenElsewhere(t, c.g) != want {
			t.Errorf("not as the library has it: %s", c.want)
		}
		wantMinted(t, checking{[]string{c.g.key}, c.g.address, want, c.g.m.Time, 0}, c.g.m)
	}
}

func TestTokensOfTheEdges(t *testing.T) {
	var s steps
	for _, address := range []int{1, 2, 4, 15, 16, 17, impl.MaxAddress} {
		for _, dcid := range []int{0, 1, 8, 9, impl.MaxId - 1, impl.MaxId} {
			for _, time := range []int{0, 1, 255, 256, 65535, 1 << 24, impl.MaxTime - 1, impl.MaxTime} {
				for _, isNew := range []bool{false, true} {
					g := minting{s.text(16), s.text(12), s.text(address), impl.Minted{Dcid: s.text(dcid), Time: time, New: isNew}}
					wantToken(t, g, tokenElsewhere(t, g))
				}
			}
		}
	}
}

// A token is parted as the document tells it: a byte, the nonce, and what SealText makes.
func TestTokensByTheirParts(t *testing.T) {
	var s steps
	for range 200 {
		g := s.minting()
		token, ok := impl.MintToken(g.key, g.nonce, g.address, g.m)
		if !ok || len(token) != 37+len(g.m.Dcid) || token[1:13] != g.nonce || (token[0] == 1) != g.m.New || token[0] > 1 {
			t.Fatalf("%#v: %x %v", g, token, ok)
		}
		text, ok := impl.OpenText(g.key, g.nonce, token[:1]+g.address, token[13:])
		if text != numberElsewhere(g.m.Time, 8)+g.m.Dcid || !ok {
			t.Fatalf("%#v: opened %x %v", g, text, ok)
		}
	}
}

func TestTokensRefused(t *testing.T) {
	for _, n := range []int{0, 1, 12, 15, 17, 24, 32, 1600} {
		g := plainMinting()
		g.key = letters(n)
		wantNoToken(t, g, "a key of another length")
	}
	for _, n := range []int{0, 1, 11, 13, 16, 24, 1200} {
		g := plainMinting()
		g.nonce = letters(n)
		wantNoToken(t, g, "a nonce of another length")
	}
	for _, n := range []int{0, 19, 20, 36, 1500, 2000} {
		g := plainMinting()
		g.address = letters(n)
		wantNoToken(t, g, "no address")
	}
	for _, n := range []int{21, 22, 40, 1492, 1493, 5000} {
		g := plainMinting()
		g.m.Dcid = letters(n)
		wantNoToken(t, g, "a long Dcid")
	}
	for _, time := range []int{-1, -2, minInt, impl.MaxTime + 1, 1 << 32, maxInt} {
		g := plainMinting()
		g.m.Time = time
		wantNoToken(t, g, "no time")
		g.m.New = true
		wantNoToken(t, g, "no time")
	}
	wantNoToken(t, minting{}, "nothing")
	wantToken(t, plainMinting(), tokenElsewhere(t, plainMinting()))
}

func TestAges(t *testing.T) {
	const most = impl.MaxTime
	for _, c := range [][3]int{{0, 0, 0}, {0, 1, 1}, {1, 1, 0}, {7, 10, 3}, {0, most, most}, {most, most, 0}, {most - 1, most, 1}, {1, most, most - 1}} {
		for _, dcid := range []string{"", "orig", letters(19), letters(20)} {
			for _, isNew := range []bool{false, true} {
				m := impl.Minted{Dcid: dcid, Time: c[0], New: isNew}
				if age, ok := impl.AgeOf(m, c[1]); age != c[2] || !ok {
					t.Errorf("%#v at %d: %d %v", m, c[1], age, ok)
				}
			}
		}
	}
}

// What is minted with a Dcid beyond MaxId is not good, and so has no age at any time.
func TestAgesOfLongDcids(t *testing.T) {
	const most = impl.MaxTime
	for _, n := range []int{21, 22, 40, 200, 1493, 5000} {
		for _, c := range [][2]int{{0, 0}, {7, 10}, {0, most}, {most, most}, {8, 7}, {-1, 0}, {0, most + 1}} {
			for _, isNew := range []bool{false, true} {
				m := impl.Minted{Dcid: letters(n), Time: c[0], New: isNew}
				if age, ok := impl.AgeOf(m, c[1]); age != 0 || ok {
					t.Errorf("%d bytes, minted at %d, at %d: %d %v", n, c[0], c[1], age, ok)
				}
			}
		}
	}
}

func TestAgesRefused(t *testing.T) {
	const most = impl.MaxTime
	for _, c := range [][2]int{
		{1, 0}, {most, most - 1}, {most, 0}, {8, 7},
		{-1, 0}, {-1, -1}, {-5, 10}, {minInt, 0}, {minInt, maxInt}, {minInt, minInt},
		{0, -1}, {0, minInt}, {0, most + 1}, {0, maxInt}, {most, most + 1},
		{most + 1, most + 1}, {most + 1, most + 2}, {most + 1, 0}, {maxInt, maxInt}, {maxInt, minInt},
	} {
		if age, ok := impl.AgeOf(impl.Minted{Dcid: "orig", Time: c[0], New: true}, c[1]); age != 0 || ok {
			t.Errorf("minted at %d, at %d: %d %v", c[0], c[1], age, ok)
		}
	}
}
