package tests

import (
	"slices"
	"strings"
	"testing"

	"loop.example/g00206/impl"
)

// minting is as said.
func (s *steps) minting() minting {
	m := impl.Minted{Dcid: s.text(s.below(21)), Time: s.below(impl.MaxTime + 1), New: s.below(2) == 0}
	return minting{s.text(16), s.text(12), s.text(1 + s.below(18)), m}
}

// someMinting is mostly as said.
func (s *steps) someMinting() minting {
	g := s.minting()
	switch s.below(10) {
	case 0:
		g.key = s.text(14 + s.below(5))
	case 1:
		g.nonce = s.text(10 + s.below(5))
	case 2:
		g.address = s.text(s.below(23))
	case 3:
		g.m.Dcid = s.text(s.below(30))
	case 4:
		g.m.Time = []int{-1, 0, impl.MaxTime, impl.MaxTime + 1, minInt, maxInt}[s.below(6)]
	}
	return g
}

func mintingTold(g minting) bool {
	return len(g.key) == 16 && len(g.nonce) == 12 && g.address != "" && len(g.address) <= 18 &&
		len(g.m.Dcid) <= 20 && g.m.Time >= 0 && g.m.Time <= 1000000000
}

func TestMintingAtAnyArguments(t *testing.T) {
	var s steps
	good := 0
	for range 3000 {
		g := s.someMinting()
		if !mintingTold(g) {
			wantNoToken(t, g, "any arguments")
			continue
		}
		good++
		wantToken(t, g, tokenElsewhere(t, g))
	}
	if good < 1500 || good > 2900 {
		t.Error(good)
	}
}

// someKeysFor are mostly one or two keys, the own one often among them.
func (s *steps) someKeysFor(own string) []string {
	var l []string
	for range []int{1, 2, 2, 1, 2, 2, 0, 3}[s.below(8)] {
		switch s.below(12) {
		case 0:
			l = append(l, s.text(14+s.below(5)))
		case 1, 2, 3:
			l = append(l, s.text(16))
		default:
			l = append(l, own)
		}
	}
	return l
}

// someChecking is of a token that was minted, and mostly of its own address and time.
func (s *steps) someChecking(t *testing.T) (checking, minting) {
	g := s.minting()
	c := checking{s.someKeysFor(g.key), g.address, tokenElsewhere(t, g), g.m.Time + s.below(1000), s.below(1500)}
	switch s.below(16) {
	case 0:
		c.address = s.text(s.below(23))
	case 1:
		c.token = turned(c.token, s.below(8*len(c.token)))
	case 2:
		c.token = s.text(s.below(70))
	case 3:
		c.token = "\x00" + s.text(s.below(70))
	case 4:
		c.token = c.token[:s.below(len(c.token)+1)]
	case 5:
		c.now = s.below(impl.MaxTime+3) - 1
	case 6:
		c.now = []int{-1, impl.MaxTime + 1, minInt, maxInt}[s.below(4)]
	case 7:
		c.life = []int{-1, impl.MaxLife + 1, minInt, maxInt, 0, impl.MaxLife}[s.below(6)]
	}
	return c, g
}

// tokenTold is the answer, by what is known of how the token was made: no seal is guessed.
func tokenTold(t *testing.T, c checking, g minting) (impl.Minted, int) {
	badKey := slices.ContainsFunc(c.keys, func(k string) bool { return len(k) != 16 })
	badTime := c.now < 0 || c.now > 1000000000 || c.life < 0 || c.life > 1000000
	if len(c.keys) < 1 || len(c.keys) > 2 || badKey || badTime || len(c.address) < 1 || len(c.address) > 18 {
		return impl.Minted{}, impl.TokenBad
	}
	if len(c.token) < 37 || len(c.token) > 57 || c.token[0] > 1 {
		return impl.Minted{}, impl.TokenForm
	}
	if c.token != tokenElsewhere(t, g) || c.address != g.address || !slices.Contains(c.keys, g.key) {
		return impl.Minted{}, impl.TokenSeal
	}
	if g.m.Time > c.now || c.now-g.m.Time > c.life {
		return impl.Minted{}, impl.TokenTime
	}
	return g.m, impl.TokenOk
}

func TestCheckingAtAnyArguments(t *testing.T) {
	var s steps
	var counts [5]int
	for range 6000 {
		c, g := s.someChecking(t)
		want, code := tokenTold(t, c, g)
		counts[code]++
		if code == impl.TokenOk {
			wantMinted(t, c, want)
		} else {
			wantTokenCode(t, c, code, "any arguments")
		}
	}
	for code, n := range counts {
		if n < 300 {
			t.Errorf("code %d: %d times", code, n)
		}
	}
}

// Promise 10: a token lives under the first key, and under the second one when another has come, until that goes too.
func TestTokensLiveUnderTwoKeys(t *testing.T) {
	var s steps
	for range 100 {
		g := s.minting()
		g.m.Time = s.below(impl.MaxTime - impl.MaxLife)
		life := s.below(impl.MaxLife + 1)
		token, ok := impl.MintToken(g.key, g.nonce, g.address, g.m)
		if !ok {
			t.Fatalf("%#v", g)
		}
		second, third := s.text(16), s.text(16)
		for _, age := range []int{0, 1, life / 2, life} {
			now := g.m.Time + min(age, life)
			for _, keys := range [][]string{{g.key}, {g.key, second}, {second, g.key}} {
				wantMinted(t, checking{keys, g.address, token, now, life}, g.m)
			}
			wantTokenCode(t, checking{[]string{third, second}, g.address, token, now, life}, impl.TokenSeal, "its key is gone")
			wantTokenCode(t, checking{[]string{second, g.key}, s.text(18), token, now, life}, impl.TokenSeal, "another address")
			if got, ok := impl.AgeOf(g.m, now); got != min(age, life) || !ok {
				t.Fatal(got, ok)
			}
		}
		for _, keys := range [][]string{{g.key}, {second, g.key}} {
			wantTokenCode(t, checking{keys, g.address, token, g.m.Time + life + 1, life}, impl.TokenTime, "too old")
			if g.m.Time > 0 {
				wantTokenCode(t, checking{keys, g.address, token, g.m.Time - 1, life}, impl.TokenTime, "too new")
			}
		}
	}
}

// Promise 10: whoever is asked to come again finds the tag over all that came, and brings back a token that lives.
func TestWhoComesAgain(t *testing.T) {
	var s steps
	for range 200 {
		g := s.minting()
		h := impl.Header{Version: 1 + s.below(mostVersion), Dcid: g.m.Dcid, Scid: s.text(s.below(21)), Payload: s.text(1 + s.below(50))}
		token, _ := impl.MintToken(g.key, g.nonce, g.address, g.m)
		scid := s.text(s.below(21))
		retry, ok := impl.RetryPacket(h, token, scid)
		if !ok || retry.Dcid != h.Scid || retry.Scid != scid {
			t.Fatalf("%#v %v", retry, ok)
		}
		packet, _ := impl.HeaderBytes(retry)
		end := len(packet) - impl.TagSize
		tag, ok := impl.RetryTag(h.Dcid, packet[:end])
		if !ok || packet[end:] != tag {
			t.Fatalf("%x is not tagged by %x", packet, tag)
		}
		again := impl.Header{Version: h.Version, Dcid: scid, Scid: h.Scid, Token: retry.Payload[:len(retry.Payload)-impl.TagSize], Payload: h.Payload}
		came, ok := impl.HeaderBytes(again)
		if !ok {
			t.Fatalf("%#v", again)
		}
		read, _, _ := impl.ReadHeader(came, 0)
		wantMinted(t, checking{[]string{g.key}, g.address, read.Token, g.m.Time, 0}, g.m)
	}
}

func TestRetriesAtAnyArguments(t *testing.T) {
	var s steps
	good, refused := 0, 0
	for range 4000 {
		h := s.someHeader()
		token, scid := s.text(1+s.below(80)), s.text(s.below(21))
		switch s.below(8) {
		case 0:
			token = s.text(s.below(260))
		case 1:
			scid = s.text(s.below(30))
		case 2:
			token = ""
		}
		if h.Form != impl.FormInitial || !impl.GoodHeader(h) || token == "" || len(token) > 200 || len(scid) > 20 {
			refused++
			wantNoRetry(t, h, token, scid, "any arguments")
			continue
		}
		good++
		wantRetry(t, h, token, scid, retryTold(t, h, token, scid))
	}
	if good < 300 || refused < 300 {
		t.Error(good, refused)
	}
}

func TestTagsAtAnyArguments(t *testing.T) {
	var s steps
	for range 1000 {
		original, packet := s.text(s.below(24)), s.text(s.below(1020))
		if len(original) > 20 || len(packet) > 1000 {
			wantNoTag(t, original, packet)
		} else {
			wantTag(t, original, packet, tagElsewhere(t, original, packet))
		}
	}
}

func TestAgesAtAnyArguments(t *testing.T) {
	var s steps
	pick := func() int {
		edges := []int{-1, 0, 1, impl.MaxTime - 1, impl.MaxTime, impl.MaxTime + 1, minInt, maxInt, s.below(impl.MaxTime)}
		return edges[s.below(len(edges))]
	}
	aged, long := 0, 0
	for range 3000 {
		m, now := impl.Minted{Dcid: s.text(s.below(26)), Time: pick(), New: s.below(2) == 0}, pick()
		timely := m.Time >= 0 && now >= m.Time && now <= 1000000000
		good := timely && len(m.Dcid) <= 20
		want := 0
		if good {
			want = now - m.Time
			aged++
		} else if timely {
			long++
		}
		if age, ok := impl.AgeOf(m, now); age != want || ok != good {
			t.Fatalf("%#v at %d: %d %v", m, now, age, ok)
		}
	}
	if aged < 100 || long < 100 {
		t.Error(aged, long)
	}
}

func TestTokensWriteIntoNothing(t *testing.T) {
	var s steps
	for range 400 {
		g := s.someMinting()
		one := watchTexts([]string{g.key, g.nonce, g.address, g.m.Dcid})
		l := one.list
		token, ok := impl.MintToken(l[0], l[1], l[2], impl.Minted{Dcid: l[3], Time: g.m.Time, New: g.m.New})
		same, _ := impl.MintToken(l[0], l[1], l[2], impl.Minted{Dcid: l[3], Time: g.m.Time, New: g.m.New})
		if ok != mintingTold(g) || token != same {
			t.Fatalf("%#v: %x %v", g, token, ok)
		}
		wantOwn(t, []string{token}, one)

		c, h := s.someChecking(t)
		keys, two := watchTexts(c.keys), watchTexts([]string{c.address, c.token})
		m, code := impl.CheckToken(keys.list, two.list[0], two.list[1], c.now, c.life)
		if want, wantCode := tokenTold(t, c, h); m != want || code != wantCode {
			t.Fatalf("%#v: %#v %d", c, m, code)
		}
		wantOwn(t, []string{m.Dcid}, keys, two)
	}
}

func TestRetriesWriteIntoNothing(t *testing.T) {
	var s steps
	for range 400 {
		h := s.someHeader()
		w := watchTexts([]string{h.Dcid, h.Scid, h.Token, h.Payload, s.text(s.below(80)), s.text(s.below(21))})
		h.Dcid, h.Scid, h.Token, h.Payload = w.list[0], w.list[1], w.list[2], w.list[3]
		kept := slices.Clone(h.Versions)
		retry, _ := impl.RetryPacket(h, w.list[4], w.list[5])
		tag, _ := impl.RetryTag(w.list[0], w.list[4])
		wantOwn(t, []string{retry.Dcid, retry.Scid, retry.Token, retry.Payload, tag}, w)
		if !slices.Equal(h.Versions, kept) || len(retry.Versions) != 0 {
			t.Fatalf("%#v of %#v", retry, h)
		}
	}
}

// One memory may be all that is told.
func TestTokensOfOneText(t *testing.T) {
	text := strings.Repeat("\x07", 20)
	g := minting{text[:16], text[:12], text[:18], impl.Minted{Dcid: text, Time: 7}}
	token := tokenElsewhere(t, g)
	wantToken(t, g, token)
	wantMinted(t, checking{[]string{text[:16], text[4:]}, text[:18], token, 7, 0}, g.m)
	h := impl.Header{Version: 1, Dcid: text, Scid: text, Token: text, Payload: text}
	wantRetry(t, h, text, text, retryTold(t, h, text, text))
}

// What lies behind a list's length is not looked at.
func TestTokensLookAtTheListAlone(t *testing.T) {
	own := plainMinting()
	row := []string{"fedcba9876543210", own.key, own.key, "short"}
	kept := slices.Clone(row)
	c := plainChecking(t)
	c.keys = row[:0]
	wantTokenCode(t, c, impl.TokenBad, "no keys")
	c.keys = row[:1]
	wantTokenCode(t, c, impl.TokenSeal, "one other key")
	c.keys = row[:2]
	wantMinted(t, c, own.m)
	c.keys = row[:3]
	wantTokenCode(t, c, impl.TokenBad, "three keys")
	c.keys = row[2:3]
	wantMinted(t, c, own.m)
	wantTexts(t, "a check", row, kept)
}
