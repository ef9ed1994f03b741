package tests

import (
	"testing"

	"loop.example/g00206/impl"
)

// The answers were reckoned by Python's cryptography and hashlib.
func TestComeAgainToldElsewhere(t *testing.T) {
	for _, c := range []struct {
		key, nonce, address, dcid string
		now, version              int
		scid, want                string
	}{
		{firstKey, "nonce of 12.", "addr", strangeId, 7, 1, "me",
			"f000000001026d65084b517f80dd6d53d8006e6f6e6365206f662031322eb4f618f236dac817b6b0f523b7ddb06cebc85dd23f19da57146def3ac1ccc0e2ab0592a9fecbf04e14a432c314ff069d"},
		{firstKey, "nonce of 12.", "addr", "", 0, 1, "",
			"f0000000010008814464b9a1032ae5006e6f6e6365206f662031322eb4f618f236dac810b42310ed414a10a77a4b5e311fec510728cec142c7564fe67ccb0c5804b83c84"},
		{letters(16), letters(12), letters(18), "\xe0" + letters(19), impl.MaxTime, mostVersion, letters(20),
			"f0ffffffff146162636465666768696a6162636465666768696a08a7b517f89f2c7605006162636465666768696a6162462a7fe26679cac89c7264012559331d4805e2f4f328158aba2da3a0506642fcb00439752582e9319a82fa49b97d5eed591a65fbc2f83f91d5ccf4bc"},
	} {
		b := retryBalancer()
		b.Keys, b.Version = []string{c.key}, c.version
		a := arriving{b, c.address, longPacket(impl.FormInitial, c.version, c.dcid, c.scid, "", letters(100)), c.now, c.nonce}
		wantComeAgain(t, a, unhex(c.want))
		if comeAgainElsewhere(t, a, c.version, c.dcid, c.scid) != unhex(c.want) {
			t.Errorf("not as the library has it: %s", c.want)
		}
		// The second key mints nothing, and the Life is not looked at yet.
		a.b.Keys, a.b.Life = []string{c.key, secondKey}, 0
		wantComeAgain(t, a, unhex(c.want))
	}
}

// Whoever is asked for a token and brings it is let in, to the backend of the id that it was given.
func TestWhoBringsItsToken(t *testing.T) {
	b := retryBalancer()
	a := arrivingAt(b, initialPacket("", 58))
	r, ok := impl.RouteDatagram(a.b, a.address, a.s, a.now, a.nonce)
	h, size, code := impl.ReadHeader(r.Answer, 8)
	if !ok || r.Kind != impl.RouteRetry || size != len(r.Answer) || code != impl.ReadOk {
		t.Fatalf("%+v %v: %d %d", r, ok, size, code)
	}
	if h.Form != impl.FormRetry || h.Version != 1 || h.Dcid != "me" || len(h.Scid) != 8 || h.Bits != 0 {
		t.Errorf("%+v", h)
	}
	token := h.Payload[:len(h.Payload)-impl.TagSize]
	m, code := impl.CheckToken(b.Keys, "addr", token, 7, 0)
	if m != (impl.Minted{Dcid: strangeId, Time: 7}) || code != impl.TokenOk {
		t.Errorf("%+v %d", m, code)
	}
	again := arrivingAt(b, longPacket(impl.FormInitial, 1, h.Scid, "me", token, "p"))
	for _, now := range []int{7, 8, 17} {
		again.now = now
		wantPicked(t, again, "d"+h.Scid)
	}
	for _, now := range []int{0, 6, 18, impl.MaxTime} {
		again.now = now
		wantDropped(t, again)
	}
}

// What asks to come again may be as long as what came, and no longer: all of it, not its first packet alone.
func TestComeAgainIsNoLongerThanWhatCame(t *testing.T) {
	b := retryBalancer()
	for payload := 1; payload <= 120; payload++ {
		a := arrivingAt(b, initialPacket("", payload))
		if payload < 58 {
			wantDropped(t, a)
		} else {
			wantComeAgain(t, a, comeAgainElsewhere(t, a, 1, strangeId, "me"))
		}
	}
	for behind := range 60 {
		a := arrivingAt(b, initialPacket("", 20)+letters(behind))
		if behind < 38 {
			wantDropped(t, a)
		} else {
			wantComeAgain(t, a, comeAgainElsewhere(t, a, 1, strangeId, "me"))
		}
	}
	second := longPacket(impl.FormHandshake, 1, strangeId, "me", "", letters(18))
	wantDropped(t, arrivingAt(b, initialPacket("", 20)+second))
	second = longPacket(impl.FormHandshake, 1, strangeId, "me", "", letters(19))
	a := arrivingAt(b, initialPacket("", 20)+second)
	wantComeAgain(t, a, comeAgainElsewhere(t, a, 1, strangeId, "me"))
}

// Both ids count on either side, so that the edge is the same for all of them.
func TestComeAgainOfEachId(t *testing.T) {
	for _, dcid := range []int{0, 1, 7, 8, 19, 20} {
		for _, scid := range []int{0, 1, 19, 20} {
			id, own := "\xe0"+letters(19), letters(scid)
			for payload := 55; payload < 62; payload++ {
				a := arrivingAt(retryBalancer(), longPacket(impl.FormInitial, 1, id[:dcid], own, "", letters(payload)))
				if payload < 58 {
					wantDropped(t, a)
				} else {
					wantComeAgain(t, a, comeAgainElsewhere(t, a, 1, id[:dcid], own))
				}
			}
		}
	}
}

// Which bytes tell the lengths does not matter, but that what came is longer by them.
func TestComeAgainOfLongVarints(t *testing.T) {
	head := "\xc5\x00\x00\x00\x01" + counted(strangeId) + counted("me")
	for _, size := range []int{1, 2, 4, 8} {
		for payload := 45; payload < 60; payload++ {
			a := arrivingAt(retryBalancer(), head+varint(0, size)+varint(payload, size)+letters(payload))
			if len(a.s) < 78 {
				wantDropped(t, a)
			} else {
				wantComeAgain(t, a, comeAgainElsewhere(t, a, 1, strangeId, "me"))
			}
		}
	}
}

// The answer hangs on all that is minted and on nothing else.
func TestComeAgainOfAnyMinting(t *testing.T) {
	var s steps
	for range 200 {
		g := s.minting()
		b := retryBalancer()
		b.Table, b.Keys, b.Life = impl.Table{}, []string{g.key, s.text(16)}[:1+s.below(2)], s.below(impl.MaxLife+1)
		b.Version = 1 + s.below(mostVersion)
		scid := s.text(s.below(21))
		a := arriving{b, g.address, longPacket(impl.FormInitial, b.Version, g.m.Dcid, scid, "", s.text(58+s.below(1100))), g.m.Time, g.nonce}
		wantComeAgain(t, a, comeAgainElsewhere(t, a, b.Version, g.m.Dcid, scid))
	}
}

// broughtToken is a token as it was minted for the one who brings it, of any key and time.
func broughtToken(t *testing.T, key string, time int, isNew bool) string {
	t.Helper()
	return tokenElsewhere(t, minting{key, "another one.", "addr", impl.Minted{Dcid: "orig", Time: time, New: isNew}})
}

func TestTokensThatAreLetIn(t *testing.T) {
	for _, isNew := range []bool{false, true} {
		first, second := broughtToken(t, firstKey, 7, isNew), broughtToken(t, secondKey, 7, isNew)
		for _, payload := range []int{1, 10, 1000} {
			b := retryBalancer()
			wantPicked(t, arrivingAt(b, initialPacket(first, payload)), "d"+strangeId)
			wantPicked(t, arrivingAt(b, initialPacket(second, payload)), "d"+strangeId)
			b.Keys = []string{firstKey}
			wantPicked(t, arrivingAt(b, initialPacket(first, payload)), "d"+strangeId)
			wantDropped(t, arrivingAt(b, initialPacket(second, payload)))
			b.Keys = []string{thirdKey, firstKey}
			wantPicked(t, arrivingAt(b, initialPacket(first, payload)), "d"+strangeId)
			wantDropped(t, arrivingAt(b, initialPacket(second, payload)))
			b.Keys = []string{thirdKey}
			wantDropped(t, arrivingAt(b, initialPacket(first, payload)))
			b.Keys = []string{firstKey, firstKey}
			wantPicked(t, arrivingAt(b, initialPacket(first, payload)), "d"+strangeId)
		}
	}
}

// A token lives from its minting on for as long as Life tells.
func TestLivesOfTokensOfRoutes(t *testing.T) {
	const most = impl.MaxTime
	for _, minted := range []int{0, 7, 300000, most - impl.MaxLife, most} {
		for _, key := range []string{firstKey, secondKey} {
			s := initialPacket(broughtToken(t, key, minted, false), 30)
			for _, life := range []int{0, 1, 10, impl.MaxLife} {
				for _, now := range []int{0, minted - 1, minted, minted + 1, minted + life - 1, minted + life, minted + life + 1, most} {
					if now < 0 || now > most {
						continue
					}
					a := arrivingAt(retryBalancer(), s)
					a.b.Life, a.now = life, now
					if now < minted || now > minted+life {
						wantDropped(t, a)
					} else {
						wantPicked(t, a, "d"+strangeId)
					}
				}
			}
		}
	}
}

// A token that is not let in is not asked for again either, however much came.
func TestTokensThatAreDropped(t *testing.T) {
	b, good := retryBalancer(), broughtToken(t, firstKey, 7, false)
	for i := range 8 * len(good) {
		wantDropped(t, arrivingAt(b, initialPacket(turned(good, i), 200)))
	}
	for n := 1; n < len(good); n++ {
		wantDropped(t, arrivingAt(b, initialPacket(good[:n], 200)))
	}
	for _, token := range []string{good + "\x00", good + good, "\x00", letters(36), letters(37), letters(57), letters(58), letters(200), noughts + noughts + noughts} {
		wantDropped(t, arrivingAt(b, initialPacket(token, 1)))
		wantDropped(t, arrivingAt(b, initialPacket(token, 1000)))
	}
	for _, address := range []string{"a", "adds", "addr\x00", letters(18)} {
		a := arrivingAt(b, initialPacket(good, 200))
		a.address = address
		wantDropped(t, a)
	}
	wantPicked(t, arrivingAt(b, initialPacket(good, 1)), "d"+strangeId)
}

// With a token that is let in the address does not choose, the Dcid does.
func TestWhoIsLetInIsPickedByItsDcid(t *testing.T) {
	b := retryBalancer()
	for _, address := range []string{"a", "addr", letters(18)} {
		token := tokenElsewhere(t, minting{secondKey, "nonce of 12.", address, impl.Minted{Dcid: "orig", Time: 3}})
		for _, id := range []string{"", strangeId, "\xe1", letters(20)} {
			a := arrivingAt(b, longPacket(impl.FormInitial, 1, id, "me", token, "p"))
			a.address = address
			wantPicked(t, a, "d"+id)
		}
	}
}

// Retry asks Initials alone: nothing else shows a token.
func TestRetryAsksInitialsAlone(t *testing.T) {
	b := retryBalancer()
	for _, form := range []int{impl.FormZero, impl.FormHandshake, impl.FormRetry} {
		wantPicked(t, arrivingAt(b, longPacket(form, 1, strangeId, "me", "", letters(500))), "d"+strangeId)
	}
	wantPicked(t, arrivingAt(b, "\x40"+strangeId+letters(500)), "aaddr")
	wantPicked(t, arrivingAt(b, "\x00"+strangeId+letters(500)), "aaddr")
}
