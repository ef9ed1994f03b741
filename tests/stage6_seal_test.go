package tests

import (
	"fmt"
	"strings"
	"testing"

	"loop.example/g00206/impl"
)

func (s *steps) keys() impl.Keys {
	return impl.Keys{Key: s.text(16), Nonce: s.text(12), Cover: s.text(16)}
}

// carriers has headers of each form that is sealed; with each of the Bits that it may have.
func carriers() []impl.Header {
	var l []impl.Header
	for bits := range 4 {
		l = append(l,
			impl.Header{Form: impl.FormInitial, Bits: bits, Version: 1, Dcid: "dest", Scid: "source", Token: "a token"},
			impl.Header{Form: impl.FormInitial, Bits: bits, Version: mostVersion, Dcid: letters(20), Scid: letters(20), Token: letters(200)},
			impl.Header{Form: impl.FormZero, Bits: bits, Version: 1, Dcid: "dest"},
			impl.Header{Form: impl.FormHandshake, Bits: bits, Version: 0x01020304, Scid: "source"})
	}
	for _, bits := range []int{0, 4} {
		l = append(l,
			impl.Header{Form: impl.FormShort, Bits: bits},
			impl.Header{Form: impl.FormShort, Bits: bits, Dcid: "dest"},
			impl.Header{Form: impl.FormShort, Bits: bits, Dcid: letters(20)})
	}
	return l
}

// headElsewhere writes what stands ahead of a number, apart from the program: told is what the first byte has in its lowest bits, size how many bytes follow.
func headElsewhere(h impl.Header, told, size int) string {
	if h.Form == impl.FormShort {
		return string([]byte{byte(64 + told)}) + h.Dcid
	}
	s := string([]byte{byte(192 + 16*h.Form + told)}) + numberElsewhere(h.Version, 4) +
		string([]byte{byte(len(h.Dcid))}) + h.Dcid + string([]byte{byte(len(h.Scid))}) + h.Scid
	if h.Form == impl.FormInitial && len(h.Token) < 64 {
		s += varint(len(h.Token), 1) + h.Token
	} else if h.Form == impl.FormInitial {
		s += varint(len(h.Token), 2) + h.Token
	}
	return s + varint(size, 2)
}

// coveredElsewhere seals frames behind a head and a number by Go's own library, and covers both by hand.
func coveredElsewhere(t *testing.T, k impl.Keys, head, number string, n int, frames string) string {
	t.Helper()
	nonce := []byte(k.Nonce)
	for i, b := range []byte(numberElsewhere(n, 8)) {
		nonce[4+i] ^= b
	}
	sealed := librarySealed(t, sealing{k.Key, string(nonce), head + number}, frames)
	b := []byte(head + number + sealed)
	at := len(head)
	m := libraryBlock(t, k.Cover, string(b[at+4:at+20]))
	if b[0] >= 128 {
		b[0] ^= m[0] % 16
	} else {
		b[0] ^= m[0] % 32
	}
	for i := range number {
		b[at+i] ^= m[1+i]
	}
	return string(b)
}

// sealedElsewhere is the packet of a header, its number in size bytes, and frames that are long enough.
func sealedElsewhere(t *testing.T, k impl.Keys, h impl.Header, n, size int, frames string) string {
	t.Helper()
	head := headElsewhere(h, h.Bits+size-1, size+len(frames)+16)
	return coveredElsewhere(t, k, head, numberElsewhere(n, size), n, frames)
}

// withNoughts is frames as they are sealed behind a number of size bytes.
func withNoughts(frames string, size int) string {
	for size+len(frames) < 4 {
		frames += "\x00"
	}
	return frames
}

func wantPacket(t *testing.T, k impl.Keys, h impl.Header, n, acked int, frames, want string) {
	t.Helper()
	if s, ok := impl.SealPacket(k, h, n, acked, frames); s != want || !ok {
		t.Errorf("%+v, %d, %d, %d bytes: %x %v, not %x", h, n, acked, len(frames), s, ok, want)
	}
}

func wantNoPacket(t *testing.T, k impl.Keys, h impl.Header, n, acked int, frames, why string) {
	t.Helper()
	if s, ok := impl.SealPacket(k, h, n, acked, frames); s != "" || ok {
		t.Errorf("%s: %+v, %d, %d, %d bytes: %x %v", why, h, n, acked, len(frames), s, ok)
	}
}

func wantOpened(t *testing.T, k impl.Keys, s string, short, largest int, h impl.Header, n int, frames string) {
	t.Helper()
	g, m, f, ok := impl.OpenPacket(k, s, short, largest)
	if !sameHeader(g, h) || m != n || f != frames || !ok {
		t.Errorf("%x, %d, %d: opened %+v, %d, %x, %v, not %+v, %d, %x", s, short, largest, g, m, f, ok, h, n, frames)
	}
}

func wantClosed(t *testing.T, k impl.Keys, s string, short, largest int, why string) {
	t.Helper()
	g, m, f, ok := impl.OpenPacket(k, s, short, largest)
	if !sameHeader(g, impl.Header{}) || m != 0 || f != "" || ok {
		t.Errorf("%s: %x, %d, %d: opened %+v, %d, %x, %v", why, s, short, largest, g, m, f, ok)
	}
}

// distances has one number and what was acknowledged for each size of number.
func distances() [4][2]int {
	return [4][2]int{{300, 290}, {70000, 60000}, {1<<23 + 5, 6}, {1<<31 + 99, 100}}
}

func TestPacketsOfEachFormAndLength(t *testing.T) {
	var s steps
	for _, h := range carriers() {
		for i, d := range distances() {
			for _, length := range []int{0, 1, 2, 3, 4, 5, 16, 50} {
				k, frames := s.keys(), s.text(length)
				filled := withNoughts(frames, i+1)
				sealed := sealedElsewhere(t, k, h, d[0], i+1, filled)
				wantPacket(t, k, h, d[0], d[1], frames, sealed)
				for _, largest := range []int{d[1], (d[0] + d[1]) / 2, d[0] - 1} {
					wantOpened(t, k, sealed, shortOf(h), largest, h, d[0], filled)
				}
			}
		}
	}
}

func TestLongestPackets(t *testing.T) {
	var s steps
	for _, h := range carriers() {
		for i, d := range distances() {
			k := s.keys()
			for _, length := range []int{999, 1000} {
				frames := s.text(length)
				sealed := sealedElsewhere(t, k, h, d[0], i+1, frames)
				wantPacket(t, k, h, d[0], d[1], frames, sealed)
				wantOpened(t, k, sealed, shortOf(h), d[1], h, d[0], frames)
			}
			for _, length := range []int{1001, 1002, 1500, 9000} {
				wantNoPacket(t, k, h, d[0], d[1], letters(length), "too long")
			}
		}
	}
}

func TestPacketsOfTheEndsOfNumbers(t *testing.T) {
	const most = impl.MaxNumber
	var s steps
	k := s.keys()
	for _, h := range carriers() {
		for _, c := range [][3]int{{0, -1, 1}, {126, -1, 1}, {127, -1, 2}, {1<<15 - 2, -1, 2}, {1<<15 - 1, -1, 3},
			{1<<23 - 2, -1, 3}, {1<<23 - 1, -1, 4}, {1<<31 - 2, -1, 4}, {most, most - 1, 1}, {most, most - 128, 2}, {most, most - (1<<31 - 1), 4}} {
			sealed := sealedElsewhere(t, k, h, c[0], c[2], "frames")
			wantPacket(t, k, h, c[0], c[1], "frames", sealed)
			wantOpened(t, k, sealed, shortOf(h), c[1], h, c[0], "frames")
			wantOpened(t, k, sealed, shortOf(h), c[0]-1, h, c[0], "frames")
		}
		for _, c := range [][2]int{{-1, -2}, {-1, -1}, {0, -2}, {0, 0}, {9, 9}, {9, 10}, {1<<31 - 1, -1}, {most, most}, {most, -1},
			{most + 1, most}, {minInt, -1}, {maxInt, maxInt - 1}, {maxInt, minInt}} {
			wantNoPacket(t, k, h, c[0], c[1], "frames", "no number")
		}
	}
}

func TestBitsOfPackets(t *testing.T) {
	var s steps
	k := s.keys()
	for _, h := range carriers() {
		for _, bits := range []int{minInt, -4, -1, 0, 1, 2, 3, 4, 5, 6, 7, 8, 12, 15, 16, 20, 32, 256, 260, maxInt} {
			h.Bits = bits
			good := bits >= 0 && bits <= 3
			if h.Form == impl.FormShort {
				good = bits == 0 || bits == 4
			}
			for i, d := range distances() {
				if good {
					wantPacket(t, k, h, d[0], d[1], "frames", sealedElsewhere(t, k, h, d[0], i+1, "frames"))
				} else {
					wantNoPacket(t, k, h, d[0], d[1], "frames", "Bits")
				}
			}
		}
	}
}

func TestHeadersThatAreNotSealed(t *testing.T) {
	var s steps
	k := s.keys()
	for _, h := range headersAsTold() {
		wantNoPacket(t, k, impl.Header{Form: impl.FormRetry, Version: 1, Payload: h.h.Payload}, 5, 4, "frames", h.name)
		if h.h.Payload != "" || h.h.Form == impl.FormVersions {
			wantNoPacket(t, k, h.h, 5, 4, "frames", h.name)
		}
	}
	for _, h := range carriers() {
		for _, form := range []int{minInt, -1, impl.FormRetry, impl.FormVersions, 6, 7, maxInt} {
			bad := h
			bad.Form = form
			wantNoPacket(t, k, bad, 5, 4, "frames", "the form")
			bad.Version, bad.Scid, bad.Token, bad.Versions = 0, "", "", []int{1}
			wantNoPacket(t, k, bad, 5, 4, "frames", "the form")
		}
		for _, payload := range []string{"p", "\x00", letters(1200)} {
			bad := h
			bad.Payload = payload
			wantNoPacket(t, k, bad, 5, 4, "frames", "a payload of its own")
		}
		for _, bad := range spoiltHeaders(h) {
			wantNoPacket(t, k, bad, 5, 4, "frames", "no good header")
		}
	}
}

// spoiltHeaders are no good ones, whatever their payload.
func spoiltHeaders(h impl.Header) []impl.Header {
	var l []impl.Header
	spoil := func(change func(h *impl.Header)) {
		bad := h
		change(&bad)
		l = append(l, bad)
	}
	spoil(func(h *impl.Header) { h.Dcid = letters(21) })
	spoil(func(h *impl.Header) { h.Scid = letters(21) })
	spoil(func(h *impl.Header) { h.Token = letters(201) })
	spoil(func(h *impl.Header) { h.Versions = []int{1} })
	spoil(func(h *impl.Header) { h.Version = -1 })
	spoil(func(h *impl.Header) { h.Version = mostVersion + 1 })
	if h.Form != impl.FormShort {
		spoil(func(h *impl.Header) { h.Version = 0 })
	} else {
		spoil(func(h *impl.Header) { h.Version = 1 })
		spoil(func(h *impl.Header) { h.Scid = "s" })
	}
	if h.Form != impl.FormInitial {
		spoil(func(h *impl.Header) { h.Token = "t" })
	}
	return l
}

func TestKeysThatAreNotGood(t *testing.T) {
	var s steps
	good := s.keys()
	for _, h := range carriers() {
		sealed := sealedElsewhere(t, good, h, 300, 1, "frames")
		for _, n := range []int{0, 1, 11, 12, 13, 15, 16, 17, 32} {
			key, nonce, cover := good, good, good
			key.Key, nonce.Nonce, cover.Cover = letters(n), letters(n), letters(n)
			for i, k := range []impl.Keys{key, nonce, cover} {
				if n == [3]int{16, 12, 16}[i] {
					continue
				}
				why := fmt.Sprint("part ", i, " of ", n)
				wantNoPacket(t, k, h, 300, 290, "frames", why)
				wantClosed(t, k, sealed, shortOf(h), 290, why)
			}
		}
		wantNoPacket(t, impl.Keys{}, h, 300, 290, "frames", "no keys")
		wantClosed(t, impl.Keys{}, sealed, shortOf(h), 290, "no keys")
		wantOpened(t, good, sealed, shortOf(h), 290, h, 300, "frames")
	}
}

// The functions of this chapter and of those ahead of it make the packet as the document puts it together.
func TestPacketsByTheirParts(t *testing.T) {
	var s steps
	for _, h := range carriers() {
		k, n := s.keys(), 70000+s.below(1000)
		number, _ := impl.NumberBytes(n, 60000)
		frames := s.text(20)
		whole := h
		whole.Bits += len(number) - 1
		whole.Payload = number + frames + noughts
		told, ok := impl.HeaderBytes(whole)
		head := strings.TrimSuffix(told, frames+noughts)
		nonce, _ := impl.NonceOf(k.Nonce, n)
		sealed, _ := impl.SealText(k.Key, nonce, head, frames)
		at := len(head) - len(number)
		m, _ := impl.CoverOf(k.Cover, (head + sealed)[at+impl.SampleAt:][:16])
		mask := []byte(strings.Repeat("\x00", len(head)))
		mask[0] = m[0] & 15
		if h.Form == impl.FormShort {
			mask[0] = m[0] & 31
		}
		copy(mask[at:], m[1:])
		if !ok || len(number) != 2 {
			t.Fatal(ok, number)
		}
		wantPacket(t, k, h, n, 60000, frames, xorText(t, head, string(mask))+sealed)
	}
}
