package tests

import (
	"testing"

	"loop.example/g00206/impl"
)

// someCarrier is a header of one of the forms, nearly always one that is sealed.
func (s *steps) someCarrier() impl.Header {
	all := carriers()
	h := all[s.below(len(all))]
	switch s.below(12) {
	case 0:
		h.Bits = s.below(20) - 2
	case 1:
		h.Form = s.below(9) - 1
	case 2:
		h.Dcid = s.text(s.below(23))
	case 3:
		h.Version = s.below(3)
	}
	return h
}

func sealedForm(h impl.Header) bool {
	switch h.Form {
	case impl.FormInitial, impl.FormZero, impl.FormHandshake:
		return h.Bits >= 0 && h.Bits <= 3
	case impl.FormShort:
		return h.Bits == 0 || h.Bits == 4
	}
	return false
}

// What is sealed is opened with any largest from what was acknowledged to ahead of it.
func TestPacketsAreOpened(t *testing.T) {
	var s steps
	sealed := 0
	for range 6000 {
		k, h, frames := s.keys(), s.someCarrier(), s.text(s.below(30))
		acked := []int{-1, s.below(1000), numberFrom(s.text(7)), impl.MaxNumber - 1<<32}[s.below(4)]
		d := s.below(1 << (1 + s.below(31)))
		packet, ok := impl.SealPacket(k, h, acked+d, acked, frames)
		whole := h
		whole.Payload = "p"
		if good := sealedForm(h) && d > 0 && impl.GoodHeader(whole); ok != good || good == (packet == "") {
			t.Fatalf("%+v, %d, %d: %x %v", h, acked+d, acked, packet, ok)
		}
		if !ok {
			continue
		}
		sealed++
		size, _ := impl.NumberBytes(acked+d, acked)
		frames = withNoughts(frames, len(size))
		for _, largest := range []int{acked, acked + s.below(d), acked + d - 1} {
			wantOpened(t, k, packet, shortOf(h), largest, h, acked+d, frames)
		}
	}
	if sealed < 4000 {
		t.Error(sealed)
	}
}

// A datagram of several packets is cut, and each of them opened.
func TestPacketsOfADatagram(t *testing.T) {
	var s steps
	k := s.keys()
	var whole string
	var packets []string
	for i, h := range []impl.Header{
		{Form: impl.FormInitial, Version: 1, Dcid: "dest", Token: "token"},
		{Form: impl.FormHandshake, Version: 1, Dcid: "dest"},
		{Form: impl.FormZero, Version: 1, Dcid: "dest"},
	} {
		packet, ok := impl.SealPacket(k, h, i, -1, "frames")
		if !ok {
			t.Fatal(i)
		}
		packets = append(packets, packet)
		whole += packet
	}
	l, ok := impl.CutDatagram(whole, 4)
	if !ok || len(l) != len(packets) {
		t.Fatalf("%x %v", l, ok)
	}
	for i, p := range l {
		if _, n, frames, ok := impl.OpenPacket(k, p, 4, -1); n != i || frames != "frames" || !ok {
			t.Error(i, n, frames, ok)
		}
	}
	wantOpened(t, k, whole, 4, -1, impl.Header{Form: impl.FormInitial, Version: 1, Dcid: "dest", Token: "token"}, 0, "frames")
}

func TestPacketsWriteIntoNothing(t *testing.T) {
	var s steps
	for range 400 {
		// All arguments lie in one memory, so that what is written behind one of them shows in the next.
		all := []byte(s.text(16 + 12 + 16 + 20 + 20 + 50 + 60))
		kept := string(all)
		one := bare(all)
		k := impl.Keys{Key: one[:16], Nonce: one[16:28], Cover: one[28:44]}
		h := impl.Header{Form: s.below(3), Version: 1, Dcid: one[44:64], Scid: one[64:84]}
		if h.Form == impl.FormInitial {
			h.Token = one[84:134]
		}
		if s.below(2) == 0 {
			h = impl.Header{Form: impl.FormShort, Dcid: one[44:64]}
		}
		frames := one[134 : 134+s.below(61)]
		packet, ok := impl.SealPacket(k, h, 70000, 65000, frames)
		same, _ := impl.SealPacket(k, h, 70000, 65000, frames)
		if !ok || packet != same || string(all) != kept {
			t.Fatalf("%x and then %x, %v", packet, same, ok)
		}
		wantNew(t, packet, one)
		given := []byte(packet)
		g, _, f, ok := impl.OpenPacket(k, bare(given), shortOf(h), 65000)
		if !ok || !sameHeader(g, h) || f != withNoughts(frames, 2) || string(given) != packet || string(all) != kept {
			t.Fatalf("%+v %x %v", g, f, ok)
		}
		for _, answer := range []string{g.Dcid, g.Scid, g.Token, f} {
			wantNew(t, answer, one, bare(given))
		}
		wantNew(t, g.Dcid, g.Scid, g.Token, f)
		given[len(given)-1] ^= 1
		wantClosed(t, k, bare(given), shortOf(h), 65000, "the last bit turned")
		if string(given[:len(given)-1]) != packet[:len(packet)-1] || string(all) != kept {
			t.Fatal("an argument is changed")
		}
	}
}

func TestKeysWriteIntoNothing(t *testing.T) {
	var s steps
	for range 200 {
		secret, nonce, cover, sample := []byte(s.text(s.below(70))), []byte(s.text(12)), []byte(s.text(16)), []byte(s.text(16))
		kept := string(secret) + string(nonce) + string(cover) + string(sample)
		given := []string{bare(secret), bare(nonce), bare(cover), bare(sample)}
		k, _ := impl.KeysOf(bare(secret))
		wantNew(t, k.Key, k.Nonce, k.Cover)
		wantNew(t, k.Nonce, k.Key, k.Cover)
		next, _ := impl.NextSecret(bare(secret))
		same, _ := impl.NonceOf(bare(nonce), 0)
		other, _ := impl.NonceOf(bare(nonce), s.below(1<<30))
		m, _ := impl.CoverOf(bare(cover), bare(sample))
		for _, answer := range []string{k.Key, k.Nonce, k.Cover, next, same, other, m} {
			wantNew(t, answer, given...)
		}
		if string(secret)+string(nonce)+string(cover)+string(sample) != kept {
			t.Fatal("an argument is changed")
		}
	}
}

// A header's list of versions is looked at for its length alone, also where it is empty with something behind it.
func TestVersionsOfASealedHeaderStay(t *testing.T) {
	var s steps
	k := s.keys()
	list := []int{7, 8, 9}
	h := impl.Header{Form: impl.FormZero, Version: 1, Dcid: "dest", Versions: list[:0]}
	packet, ok := impl.SealPacket(k, h, 5, 4, "frames")
	if !ok || packet != sealedElsewhere(t, k, h, 5, 1, "frames") {
		t.Errorf("%x %v", packet, ok)
	}
	h.Versions = list[:1]
	wantNoPacket(t, k, h, 5, 4, "frames", "a list of versions")
	if list[0] != 7 || list[1] != 8 || list[2] != 9 {
		t.Error(list)
	}
}

func TestOpenAnyBytes(t *testing.T) {
	var s steps
	k := s.keys()
	for range 20000 {
		b := []byte(s.text(s.below(90)))
		if s.below(3) > 0 && len(b) > 30 {
			b[0] |= 192
			b[1], b[2], b[3], b[4], b[5], b[6], b[7], b[8] = 0, 0, 0, 1, 0, 0, 0, byte(s.below(len(b)))
		}
		wantClosed(t, k, string(b), s.below(24)-2, s.below(1000)-3, "any bytes")
	}
}

func TestNumbersAtAnyArguments(t *testing.T) {
	var s steps
	edges := []int{minInt, minInt + 1, -1 << 32, -257, -2, -1, 0, 1, 2, 4, 5, 127, 128, 255, 256, 65535, 65536, 1<<31 - 1, 1 << 31, 1<<32 - 1, 1 << 32, 1 << 61,
		impl.MaxNumber - 1, impl.MaxNumber, impl.MaxNumber + 1, maxInt - 1, maxInt}
	for range 40000 {
		a, b, c := edges[s.below(len(edges))], edges[s.below(len(edges))], edges[s.below(len(edges))]
		if s.below(2) == 0 {
			c = s.below(7) - 1
		}
		bytes, ok := impl.NumberBytes(a, b)
		good := a >= 0 && a <= impl.MaxNumber && b >= -1 && b < a && a-b < 1<<31
		if ok != good || good == (bytes == "") {
			t.Fatalf("NumberBytes, %d, %d: %x %v", a, b, bytes, ok)
		}
		n, ok := impl.NumberOf(a, b, c)
		good = a >= -1 && a < impl.MaxNumber && c >= 1 && c <= 4 && b >= 0 && b < 1<<(8*max(min(c, 4), 1))
		if ok != good || !good && n != 0 || good && n != nearestNumber(a, b, c) {
			t.Fatalf("NumberOf, %d, %d, %d: %d %v", a, b, c, n, ok)
		}
		nonce, ok := impl.NonceOf(letters(11+s.below(3)), a)
		if ok && (a < 0 || a > impl.MaxNumber) || ok == (nonce == "") {
			t.Fatalf("NonceOf, %d: %x %v", a, nonce, ok)
		}
	}
}
