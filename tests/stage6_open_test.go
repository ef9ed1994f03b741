package tests

import (
	"strings"
	"testing"

	"loop.example/g00206/impl"
)

// clientFrame is the frame that RFC 9001, A.2 tells; noughts up to 1162 bytes follow it there.
const clientFrame = "060040f1010000ed0303ebf8fa56f12939b9584a3896472ec40bb863cfd3e868" +
	"04fe3a47f06a2b69484c00000413011302010000c000000010000e00000b6578" +
	"616d706c652e636f6dff01000100000a00080006001d00170018001000070005" +
	"04616c706e000500050100000000003300260024001d00209370b2c9caa47fba" +
	"baf4559fedba753de171fa71f50f1ce15d43e994ec74d748002b000302030400" +
	"0d0010000e0403050306030203080408050806002d00020101001c0002400100" +
	"3900320408ffffffffffffffff05048000ffff07048000ffff08011001048000" +
	"75300901100f088394c8f03e51570806048000ffff"

const serverFrames = "02000000000600405a020000560303eefce7f7b37ba1d1632e96677825ddf73988cfc79825df566dc5430b9a045a12" +
	"00130100002e00330024001d00209d3c940d89690b84d08a60993c144eca684d1081287c834d5311bcf32bb9da1a002b00020304"

const serverPacket = "cf000000010008f067a5502a4262b5004075c0d95a482cd0991cd25b0aac406a" +
	"5816b6394100f37a1c69797554780bb38cc5a99f5ede4cf73c3ec2493a1839b3" +
	"dbcba3f6ea46c5b7684df3548e7ddeb9c3bf9c73cc3f3bded74b562bfb19fb84" +
	"022f8ef4cdd93795d77d06edbb7aaf2f58891850abbdca3d20398c276456cbc4" +
	"2158407dd074ee"

// RFC 9001, A.2 and A.3: both tell their numbers in more bytes than NumberBytes takes, so they are opened but not sealed here.
func TestPacketsToldElsewhere(t *testing.T) {
	client, server, _ := impl.InitialSecrets(unhex("8394c8f03e515708"))
	serverKeys, _ := impl.KeysOf(server)
	h := impl.Header{Form: impl.FormInitial, Version: 1, Scid: unhex("f067a5502a4262b5")}
	wantOpened(t, serverKeys, unhex(serverPacket), 8, -1, h, 1, unhex(serverFrames))
	wantOpened(t, serverKeys, unhex(serverPacket), 8, 0, h, 1, unhex(serverFrames))

	clientKeys, _ := impl.KeysOf(client)
	frames := unhex(clientFrame)
	frames += strings.Repeat("\x00", 1162-len(frames))
	packet := coveredElsewhere(t, clientKeys, unhex("c300000001088394c8f03e5157080000449e"), unhex("00000002"), 2, frames)
	begin := unhex("c000000001088394c8f03e5157080000449e7b9aec34d1b1c98dd7689fb8ec11d242b123dc9b")
	end := unhex("e221af44860018ab0856972e194cd934")
	if len(packet) != 1200 || !strings.HasPrefix(packet, begin) || !strings.HasSuffix(packet, end) {
		t.Errorf("%x", packet)
	}
	h = impl.Header{Form: impl.FormInitial, Version: 1, Dcid: unhex("8394c8f03e515708")}
	wantOpened(t, clientKeys, packet, 8, -1, h, 2, frames)
	wantClosed(t, serverKeys, packet, 8, -1, "the other one's keys")
	wantClosed(t, clientKeys, unhex(serverPacket), 8, -1, "the other one's keys")
}

// A number in more bytes than needed is read all the same.
func TestNumbersInMoreBytes(t *testing.T) {
	var s steps
	k := s.keys()
	for _, h := range carriers() {
		for size := 1; size <= 4; size++ {
			wantOpened(t, k, sealedElsewhere(t, k, h, 5, size, "frames"), shortOf(h), 4, h, 5, "frames")
		}
	}
}

func TestBytesBehindAPacket(t *testing.T) {
	var s steps
	k := s.keys()
	for _, h := range carriers() {
		sealed := sealedElsewhere(t, k, h, 300, 1, "frames")
		for _, behind := range []string{"\x00", "\x40", "\xff", noughts, sealed, s.text(40), letters(1500), letters(9000)} {
			if h.Form == impl.FormShort {
				wantClosed(t, k, sealed+behind, shortOf(h), 290, "bytes behind a short packet")
			} else {
				wantOpened(t, k, sealed+behind, shortOf(h), 290, h, 300, "frames")
			}
		}
		wantClosed(t, k, "\x00"+sealed, shortOf(h), 290, "a byte ahead")
		wantClosed(t, k, sealed[1:], shortOf(h), 290, "a byte less ahead")
	}
}

func TestPacketsCutOff(t *testing.T) {
	var s steps
	k := s.keys()
	for _, h := range carriers() {
		for i, frames := range []string{"", "a", "frames"} {
			sealed := sealedElsewhere(t, k, h, 300, 2, withNoughts(frames, 2))
			for n := range len(sealed) {
				wantClosed(t, k, sealed[:n], shortOf(h), 290, "cut off")
			}
			wantOpened(t, k, sealed, shortOf(h), 290, h, 300, withNoughts(frames, 2))
			if i > 0 {
				continue
			}
			for n := range 200 {
				wantClosed(t, k, strings.Repeat("\x00", n), shortOf(h), 290, "noughts")
				wantClosed(t, k, strings.Repeat("\xff", n), shortOf(h), 290, "ones")
				wantClosed(t, k, "\x40"+s.text(n), shortOf(h), 290, "anything behind a short packet's first byte")
			}
		}
	}
}

func TestPacketsWithABitTurned(t *testing.T) {
	var s steps
	for _, h := range carriers() {
		for i, d := range distances() {
			k := s.keys()
			sealed := sealedElsewhere(t, k, h, d[0], i+1, "abc")
			if len(sealed) > 200 && i > 0 {
				continue
			}
			for bit := range 8 * len(sealed) {
				wantClosed(t, k, turned(sealed, bit), shortOf(h), d[1], "a bit turned")
			}
			wantOpened(t, k, sealed, shortOf(h), d[1], h, d[0], "abc")
		}
	}
}

func TestPacketsWithOtherKeys(t *testing.T) {
	var s steps
	h := impl.Header{Form: impl.FormShort, Dcid: "dest"}
	k := s.keys()
	sealed := sealedElsewhere(t, k, h, 300, 2, "frames")
	for bit := range 128 {
		other := k
		other.Key = turned(k.Key, bit)
		wantClosed(t, other, sealed, 4, 290, "another key")
		other = k
		other.Cover = turned(k.Cover, bit)
		wantClosed(t, other, sealed, 4, 290, "another cover")
		if bit < 96 {
			other = k
			other.Nonce = turned(k.Nonce, bit)
			wantClosed(t, other, sealed, 4, 290, "another nonce")
		}
	}
}

func TestLengthsOfShortIds(t *testing.T) {
	var s steps
	k := s.keys()
	for _, h := range carriers() {
		sealed := sealedElsewhere(t, k, h, 300, 1, letters(40))
		for _, short := range []int{minInt, -2, -1, impl.MaxId + 1, impl.MaxId + 2, 256, maxInt} {
			wantClosed(t, k, sealed, short, 290, "short is none")
		}
		for short := 0; short <= impl.MaxId; short++ {
			if h.Form != impl.FormShort || short == len(h.Dcid) {
				wantOpened(t, k, sealed, short, 290, h, 300, letters(40))
			} else {
				wantClosed(t, k, sealed, short, 290, "another length")
			}
		}
	}
}

func TestLargestOfPackets(t *testing.T) {
	const most = impl.MaxNumber
	var s steps
	k := s.keys()
	for _, h := range carriers() {
		short := shortOf(h)
		first := sealedElsewhere(t, k, h, 0, 1, "frames")
		last := sealedElsewhere(t, k, h, most, 1, "frames")
		wantOpened(t, k, first, short, -1, h, 0, "frames")
		wantOpened(t, k, first, short, 126, h, 0, "frames")
		wantClosed(t, k, first, short, 127, "it would be 256")
		wantOpened(t, k, last, short, most-1, h, most, "frames")
		wantOpened(t, k, last, short, most-129, h, most, "frames")
		wantClosed(t, k, last, short, most-130, "it would be 256 less")
		for _, largest := range []int{minInt, -3, -2, most, most + 1, maxInt} {
			wantClosed(t, k, first, short, largest, "largest is none")
			wantClosed(t, k, last, short, largest, "largest is none")
		}
	}
}

// What begins with a whole number and its sample is long enough; what lies behind a long packet lends no bytes to the sample.
func TestPacketsTooShortForASample(t *testing.T) {
	var s steps
	k := s.keys()
	for _, h := range carriers() {
		for size := 1; size <= 4; size++ {
			for length := range 16 {
				head := headElsewhere(h, h.Bits+size-1, size+length)
				wantClosed(t, k, head+s.text(size+length), shortOf(h), 290, "no sample")
				if h.Form != impl.FormShort {
					wantClosed(t, k, head+s.text(size+length)+s.text(50), shortOf(h), 290, "no sample of its own")
				}
			}
		}
		// Sealed with one byte too few, so that the sample's last byte lies behind it.
		if h.Form != impl.FormShort {
			head := headElsewhere(h, h.Bits, 1+2+16)
			long := coveredBehind(t, k, head, "\x05", 5, "ab", "\x00")
			wantClosed(t, k, long, shortOf(h), 4, "a sample that ends behind it")
		}
	}
}

// coveredBehind is as coveredElsewhere, with bytes behind that the sample may reach into.
func coveredBehind(t *testing.T, k impl.Keys, head, number string, n int, frames, behind string) string {
	t.Helper()
	nonce := []byte(k.Nonce)
	for i, b := range []byte(numberElsewhere(n, 8)) {
		nonce[4+i] ^= b
	}
	b := []byte(head + number + librarySealed(t, sealing{k.Key, string(nonce), head + number}, frames) + behind)
	m := libraryBlock(t, k.Cover, string(b[len(head)+4:len(head)+20]))
	b[0] ^= m[0] % 16
	for i := range number {
		b[len(head)+i] ^= m[1+i]
	}
	return string(b)
}

// Lengths in longer varints stand in what is beside as they are in the packet.
func TestPacketsWithLongerVarints(t *testing.T) {
	var s steps
	k := s.keys()
	const ids = "\x00\x00\x00\x01\x04dest\x00"
	for _, size := range []int{2, 4, 8} {
		for _, tokenSize := range []int{1, 2, 4, 8} {
			head := "\xc0" + ids + varint(5, tokenSize) + "token" + varint(23, size)
			h := impl.Header{Form: impl.FormInitial, Version: 1, Dcid: "dest", Token: "token"}
			wantOpened(t, k, coveredElsewhere(t, k, head, "\x05", 5, "frames"), 8, 4, h, 5, "frames")
		}
		head := "\xe0" + ids + varint(23, size)
		h := impl.Header{Form: impl.FormHandshake, Version: 1, Dcid: "dest"}
		wantOpened(t, k, coveredElsewhere(t, k, head, "\x05", 5, "frames"), 8, 4, h, 5, "frames")
	}
	head := "\xe0" + ids + varint(23, 1)
	h := impl.Header{Form: impl.FormHandshake, Version: 1, Dcid: "dest"}
	wantOpened(t, k, coveredElsewhere(t, k, head, "\x05", 5, "frames"), 8, 4, h, 5, "frames")
}

// A header's payload of 1200 bytes may be met exactly, though no more than 1000 are sealed here.
func TestLongestThatIsOpened(t *testing.T) {
	var s steps
	k := s.keys()
	for _, h := range carriers() {
		for size := 1; size <= 4; size++ {
			frames := s.text(1200 - size - 16)
			wantOpened(t, k, sealedElsewhere(t, k, h, 5, size, frames), shortOf(h), 4, h, 5, frames)
			wantClosed(t, k, sealedElsewhere(t, k, h, 5, size, frames+"f"), shortOf(h), 4, "a payload of 1201 bytes")
		}
	}
}

// Bits that no packet of the form is sealed with are not opened either, nor are forms without a number.
func TestPacketsOfOtherBitsAndForms(t *testing.T) {
	var s steps
	k := s.keys()
	for _, h := range carriers() {
		most := 15
		if h.Form == impl.FormShort {
			most = 63
		}
		for told := 0; told <= most; told++ {
			for size := 1; size <= 4; size++ {
				head := headElsewhere(h, told, size+6+16)
				sealed := coveredElsewhere(t, k, head, numberElsewhere(5, size), 5, "frames")
				want := h
				want.Bits = told - (size - 1)
				if sealedForm(want) {
					wantOpened(t, k, sealed, shortOf(h), 4, want, 5, "frames")
				} else {
					wantClosed(t, k, sealed, shortOf(h), 4, "other Bits")
				}
			}
		}
	}
	retry := headElsewhere(impl.Header{Form: impl.FormRetry, Version: 1, Dcid: "dest"}, 0, 23)
	wantClosed(t, k, coveredElsewhere(t, k, retry, "\x05", 5, "frames"), 4, 4, "a length in front of its payload")
	retry = strings.TrimSuffix(retry, varint(23, 2))
	wantClosed(t, k, coveredElsewhere(t, k, retry, "\x05", 5, "frames"), 4, 4, "asks to come again")
	for _, c := range headersAsTold() {
		wantClosed(t, k, c.s, shortOf(c.h), 4, c.name)
		wantClosed(t, k, c.s+letters(60), shortOf(c.h), 4, c.name)
	}
	// Version 0 is an answer of versions, and the second highest bit is every packet's.
	for _, form := range []int{impl.FormInitial, impl.FormZero, impl.FormHandshake} {
		head := headElsewhere(impl.Header{Form: form, Dcid: "dest"}, 0, 23)
		wantClosed(t, k, coveredElsewhere(t, k, head, "\x05", 5, "frames"), 4, 4, "Version 0")
		head = headElsewhere(impl.Header{Form: form, Version: 1, Dcid: "dest"}, 0, 23)
		wantClosed(t, k, coveredElsewhere(t, k, string([]byte{head[0] - 64})+head[1:], "\x05", 5, "frames"), 4, 4, "the second highest bit")
	}
	wantClosed(t, k, coveredElsewhere(t, k, "\x00dest", "\x05", 5, "frames"), 4, 4, "the second highest bit")
}
