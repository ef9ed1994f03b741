package tests

import (
	"slices"
	"strings"
	"testing"

	"loop.example/g00206/impl"
)

// checking is what CheckToken is given.
type checking struct {
	keys           []string
	address, token string
	now, life      int
}

// plainChecking is of the token of plainMinting, at its last moment.
func plainChecking(t *testing.T) checking {
	t.Helper()
	g := plainMinting()
	return checking{[]string{g.key}, g.address, tokenElsewhere(t, g), 10, 3}
}

func wantMinted(t *testing.T, c checking, want impl.Minted) {
	t.Helper()
	if m, code := impl.CheckToken(c.keys, c.address, c.token, c.now, c.life); m != want || code != impl.TokenOk {
		t.Errorf("%#v: %#v %d, not %#v", c, m, code, want)
	}
}

func wantTokenCode(t *testing.T, c checking, want int, why string) {
	t.Helper()
	if m, code := impl.CheckToken(c.keys, c.address, c.token, c.now, c.life); m != (impl.Minted{}) || code != want {
		t.Errorf("%s: %#v: %#v %d, not %d", why, c, m, code, want)
	}
}

func TestTokensLiveAsLongAsTheyShould(t *testing.T) {
	const most = impl.MaxTime
	for _, minted := range []int{0, 1, 7, 300000, most - impl.MaxLife - 1, most - impl.MaxLife, most - 1, most} {
		g := plainMinting()
		g.m.Time = minted
		c := plainChecking(t)
		c.token = tokenElsewhere(t, g)
		for _, life := range []int{0, 1, 3, impl.MaxLife - 1, impl.MaxLife} {
			c.life = life
			for _, now := range []int{minted - 1, minted, minted + 1, minted + life - 1, minted + life, minted + life + 1, 0, most} {
				c.now = now
				switch {
				case now < 0 || now > most:
					wantTokenCode(t, c, impl.TokenBad, "no time")
				case now < minted || now > minted+life:
					wantTokenCode(t, c, impl.TokenTime, "not its time")
				default:
					wantMinted(t, c, g.m)
				}
			}
		}
	}
}

func TestLivesAndTimesThatAreNone(t *testing.T) {
	for _, n := range []int{-1, -2, minInt, maxInt, impl.MaxTime + 1} {
		c := plainChecking(t)
		c.now = n
		wantTokenCode(t, c, impl.TokenBad, "no time")
		c.life = 0
		wantTokenCode(t, c, impl.TokenBad, "no time and no life")
	}
	for _, n := range []int{-1, -2, minInt, maxInt, impl.MaxLife + 1, impl.MaxTime} {
		c := plainChecking(t)
		c.life = n
		wantTokenCode(t, c, impl.TokenBad, "no life")
		c.now = 7
		wantTokenCode(t, c, impl.TokenBad, "no life, at once")
		c.now = 0
		wantTokenCode(t, c, impl.TokenBad, "no life, ahead of it")
	}
}

func TestKeysOfTokens(t *testing.T) {
	const other, third = "fedcba9876543210", "another 16 bytes"
	m, own := plainMinting().m, plainMinting().key
	for _, keys := range [][]string{{own}, {own, other}, {other, own}, {own, own}} {
		c := plainChecking(t)
		c.keys = keys
		wantMinted(t, c, m)
	}
	for _, keys := range [][]string{{other}, {other, third}, {other, other}, {noughts}} {
		c := plainChecking(t)
		c.keys = keys
		wantTokenCode(t, c, impl.TokenSeal, "other keys")
	}
	for _, keys := range [][]string{nil, {}, {own, own, own}, {own, other, third}, {other, third, own}, slices.Repeat([]string{own}, 100)} {
		c := plainChecking(t)
		c.keys = keys
		wantTokenCode(t, c, impl.TokenBad, "none or more than two keys")
	}
}

func TestKeysOfTokensOfOtherLengths(t *testing.T) {
	own := plainMinting().key
	for _, n := range []int{0, 1, 15, 17, 24, 32, 1600} {
		bad := strings.Repeat(own, 100)[:n]
		for _, keys := range [][]string{{bad}, {bad, own}, {own, bad}, {bad, bad}, {own, own, bad}} {
			c := plainChecking(t)
			c.keys = keys
			wantTokenCode(t, c, impl.TokenBad, "a key of another length")
		}
	}
}

// These tokens open with both of two keys: the keys were looked for, so that both times are near each other, and the sealed bytes reckoned, so that both tags are one.
func twiceSealed() []twice {
	return []twice{
		{[2]string{"key of 16 c96376", "key of 16 2d4a8d"},
			"00 6e6f6e636520666f7220322e 3109ae9cb25ddde1 c4059e27bb8a88bbb6c03ee9d5c551ee00000000 338508bdceb6c0ed2c8ef518757db243",
			[2]impl.Minted{
				{Dcid: unhex("f5127d0b2267a481477b6abfa5848835a50f7990"), Time: 599785472},
				{Dcid: unhex("675947669bfd0a2c34e49d93c17be4a24770aaef"), Time: 599801811},
			}},
		{[2]string{"key of 16 c96376", "key of 16 2d4a8d"},
			"01 6e6f6e636520666f7220322e 3109ae9cb25ddde1 19f709b2cd64eeddacfe0370db28625600000000 149851e7c4ce33c625a532dcf6edad5e",
			[2]impl.Minted{
				{Dcid: unhex("28e0ea9e5489c2e75d455726ab69bb8da50f7990"), Time: 599785472, New: true},
				{Dcid: unhex("baabd0f3ed136c4a2edaa00acf96d71a4770aaef"), Time: 599801811, New: true},
			}},
		{[2]string{"key of 16 b8b22f", "key of 16 3a59a9"},
			"00 6e6f6e636520666f7220322e 190e7eadd103734e 6cd370823ad7cd99b27065c1a19b319400000000 e59638951c5b13265487855d6f67d078",
			[2]impl.Minted{
				{Dcid: unhex("abd1e57271c5014a38a295e13528b9b0fd7877b1"), Time: 599785472},
				{Dcid: unhex("f9669c3b539f87fbf18dc27e18f2b1105908a3f7"), Time: 600472705},
			}},
	}
}

// twice is a token that two keys seal, each of them of something else; of the first key it is the older one.
type twice struct {
	keys   [2]string
	token  string
	minted [2]impl.Minted
}

func TestTheNewestKeyIsTriedFirst(t *testing.T) {
	for _, w := range twiceSealed() {
		token := unhex(w.token)
		old, late := w.minted[0], w.minted[1]
		for i, m := range w.minted {
			if made := tokenElsewhere(t, minting{w.keys[i], "nonce for 2.", "addr", m}); made != token {
				t.Fatalf("%x is not the token of %q", token, w.keys[i])
			}
		}
		first, second := w.keys[0], w.keys[1]
		c := checking{[]string{first, second}, "addr", token, late.Time, impl.MaxLife}
		wantMinted(t, c, old)
		c.keys = []string{second, first}
		wantMinted(t, c, late)
		c.keys = []string{first, first}
		wantMinted(t, c, old)
		c.keys = []string{second, "fedcba9876543210"}
		wantMinted(t, c, late)

		// What the newest key opens is not looked at with the other one, though that one would tell a good time.
		c.keys, c.life = []string{first, second}, late.Time-old.Time-1
		wantTokenCode(t, c, impl.TokenTime, "too old with the newest key")
		c.keys = []string{second, first}
		wantMinted(t, c, late)
		c.now = old.Time
		wantTokenCode(t, c, impl.TokenTime, "too new with the newest key")
		c.keys = []string{first, second}
		wantMinted(t, c, old)
	}
}

func TestTokensOfOtherLengths(t *testing.T) {
	own := plainMinting()
	for _, first := range []byte{0, 1} {
		for n := range 80 {
			text := numberElsewhere(7, 8) + letters(n)
			c := plainChecking(t)
			c.token = sealedToken(t, first, own.key, own.nonce, own.address, text)
			if len(c.token) != 37+n {
				t.Fatal(n, len(c.token))
			}
			if n <= 20 {
				wantMinted(t, c, impl.Minted{Dcid: letters(n), Time: 7, New: first == 1})
			} else {
				wantTokenCode(t, c, impl.TokenForm, "a long token")
			}
		}
		// Where eight bytes of a time lack, the seal may be as good as it likes.
		for n := range 8 {
			c := plainChecking(t)
			c.token = sealedToken(t, first, own.key, own.nonce, own.address, noughts[:n])
			wantTokenCode(t, c, impl.TokenForm, "a short token")
		}
	}
	for n := range 37 {
		c := plainChecking(t)
		c.token = c.token[:n]
		wantTokenCode(t, c, impl.TokenForm, "the beginning of a token")
		c.token = noughts[:n%16]
		wantTokenCode(t, c, impl.TokenForm, "noughts")
	}
	for n := 37; n <= 57; n++ {
		c := plainChecking(t)
		c.token = strings.Repeat(noughts, 4)[:n]
		wantTokenCode(t, c, impl.TokenSeal, "noughts")
	}
	c := plainChecking(t)
	c.token = letters(100000)
	wantTokenCode(t, c, impl.TokenForm, "a very long token")
}

func TestFirstBytesOfTokens(t *testing.T) {
	own := plainMinting()
	for first := range 256 {
		c := plainChecking(t)
		c.token = sealedToken(t, byte(first), own.key, own.nonce, own.address, numberElsewhere(7, 8)+"orig")
		if first <= 1 {
			wantMinted(t, c, impl.Minted{Dcid: "orig", Time: 7, New: first == 1})
		} else {
			wantTokenCode(t, c, impl.TokenForm, "a first byte above 1")
		}
	}
}

func TestTokensWithAnyBitTurned(t *testing.T) {
	for _, dcid := range []string{"", "orig", letters(20)} {
		for _, isNew := range []bool{false, true} {
			g := plainMinting()
			g.m.Dcid, g.m.New = dcid, isNew
			good := plainChecking(t)
			good.token = tokenElsewhere(t, g)
			wantMinted(t, good, g.m)
			for i := range 8 * len(good.token) {
				c := good
				c.token = turned(good.token, i)
				if c.token[0] > 1 {
					wantTokenCode(t, c, impl.TokenForm, "a bit of the first byte turned")
				} else {
					wantTokenCode(t, c, impl.TokenSeal, "a bit turned")
				}
			}
			for i := range 8 * len(g.key) {
				c := good
				c.keys = []string{turned(g.key, i)}
				wantTokenCode(t, c, impl.TokenSeal, "a bit of the key turned")
				c.keys = append(c.keys, g.key)
				wantMinted(t, c, g.m)
			}
			for i := range 8 * len(g.address) {
				c := good
				c.address = turned(g.address, i)
				wantTokenCode(t, c, impl.TokenSeal, "a bit of the address turned")
			}
		}
	}
}

func TestTokensAtOtherAddresses(t *testing.T) {
	for _, address := range []string{"a", "add", "adds", "addr\x00", "\x00addr", "addraddr", "ADDR", letters(18), noughts} {
		c := plainChecking(t)
		c.address = address
		wantTokenCode(t, c, impl.TokenSeal, "another address")
	}
	for _, n := range []int{0, 19, 20, 100, 1499, 1500, 5000} {
		g := plainMinting()
		g.address = letters(n)
		c := plainChecking(t)
		c.address, c.token = g.address, tokenElsewhere(t, g)
		wantTokenCode(t, c, impl.TokenBad, "no address")
	}
	for n := 1; n <= impl.MaxAddress; n++ {
		g := plainMinting()
		g.address = letters(n)
		c := plainChecking(t)
		c.address, c.token = g.address, tokenElsewhere(t, g)
		wantMinted(t, c, g.m)
		c.address = letters(n) + "x"
		if n < impl.MaxAddress {
			wantTokenCode(t, c, impl.TokenSeal, "a longer address")
		} else {
			wantTokenCode(t, c, impl.TokenBad, "an address that is too long")
		}
	}
	// Where the first byte ends and the address begins can't be moved.
	c := plainChecking(t)
	c.token = sealedToken(t, 1, plainMinting().key, plainMinting().nonce, "\x01addr", numberElsewhere(7, 8))
	wantTokenCode(t, c, impl.TokenSeal, "an address with a byte ahead of it")
}

// Who has a key may seal what MintToken would not: times above MaxTime, and such as no int holds.
func TestTimesThatNobodyMints(t *testing.T) {
	own := plainMinting()
	for _, time := range []string{
		numberElsewhere(impl.MaxTime+1, 8), numberElsewhere(maxInt, 8), "\x80\x00\x00\x00\x00\x00\x00\x00", "\x80\x00\x00\x00\x00\x00\x00\x07",
		"\xff\xff\xff\xff\xff\xff\xff\xff", "\xff\xff\xff\xff\xff\xff\xff\xf0", "\x00\x00\x00\x01\x00\x00\x00\x07", "\x01\x00\x00\x00\x00\x00\x00\x07",
	} {
		for _, now := range []int{0, 7, 10, impl.MaxTime} {
			for _, life := range []int{0, 3, impl.MaxLife} {
				c := plainChecking(t)
				c.token, c.now, c.life = sealedToken(t, 0, own.key, own.nonce, own.address, time+"orig"), now, life
				wantTokenCode(t, c, impl.TokenTime, "a time above now")
			}
		}
	}
}

// Each fault is told ahead of those that follow it, whichever of its kinds it is.
func TestTokenCodesInTheirOrder(t *testing.T) {
	own := plainMinting()
	bad := []func(c *checking){
		func(c *checking) { c.keys = nil },
		func(c *checking) { c.keys = []string{own.key, own.key, own.key} },
		func(c *checking) { c.keys = []string{own.key, own.key[:15]} },
		func(c *checking) { c.keys = []string{own.key + "g", own.key} },
		func(c *checking) { c.address = "" },
		func(c *checking) { c.address = letters(19) },
		func(c *checking) { c.now = -1 },
		func(c *checking) { c.now = impl.MaxTime + 1 },
		func(c *checking) { c.life = -1 },
		func(c *checking) { c.life = impl.MaxLife + 1 },
	}
	form := []func(c *checking){
		func(c *checking) { c.token = c.token[:36] },
		func(c *checking) { c.token += letters(17) },
		func(c *checking) { c.token = "\x02" + c.token[1:] },
		func(c *checking) { c.token = "" },
	}
	seal := []func(c *checking){
		func(c *checking) { c.token = turned(c.token, 8*40) },
		func(c *checking) { c.keys = []string{"fedcba9876543210"} },
		func(c *checking) { c.address = "adds" },
	}
	time := []func(c *checking){
		func(c *checking) { c.now = 6 },
		func(c *checking) { c.life = 2 },
		func(c *checking) { c.now = impl.MaxTime },
	}
	nothing := []func(c *checking){func(c *checking) {}}
	for _, late := range slices.Concat(nothing, time) {
		for _, shut := range slices.Concat(nothing, seal) {
			for _, shaped := range form {
				for _, wrong := range bad {
					wantSpoilt(t, impl.TokenBad, late, shut, shaped, wrong)
				}
				wantSpoilt(t, impl.TokenForm, late, shut, shaped)
			}
			for _, wrong := range bad {
				wantSpoilt(t, impl.TokenBad, late, shut, wrong)
			}
		}
		for _, shut := range seal {
			wantSpoilt(t, impl.TokenSeal, late, shut)
		}
	}
	for _, late := range time {
		wantSpoilt(t, impl.TokenTime, late)
	}
	wantMinted(t, plainChecking(t), own.m)
}

// wantSpoilt checks the plain token when all of this is done to it.
func wantSpoilt(t *testing.T, code int, changes ...func(c *checking)) {
	t.Helper()
	c := plainChecking(t)
	for _, change := range changes {
		change(&c)
	}
	wantTokenCode(t, c, code, "several faults")
}
