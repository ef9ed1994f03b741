package tests

import (
	"testing"

	"loop.example/g00206/impl"
)

const retrySecret, retryNonce = "be0c690b9f66575a1d766b54e368c84e", "461599d35d632bf2239825bb"

func tagElsewhere(t *testing.T, original, packet string) string {
	t.Helper()
	beside := string([]byte{byte(len(original))}) + original + packet
	return librarySealed(t, sealing{unhex(retrySecret), unhex(retryNonce), beside}, "")
}

// retryElsewhere is the bytes of a Retry without its tag.
func retryElsewhere(version int, dcid, scid, token string) string {
	return "\xf0" + numberElsewhere(version, 4) + string([]byte{byte(len(dcid))}) + dcid + string([]byte{byte(len(scid))}) + scid + token
}

func wantTag(t *testing.T, original, packet, want string) {
	t.Helper()
	if tag, ok := impl.RetryTag(original, packet); tag != want || !ok {
		t.Errorf("%x and %d bytes: %x %v, not %x", original, len(packet), tag, ok, want)
	}
}

func wantNoTag(t *testing.T, original, packet string) {
	t.Helper()
	if tag, ok := impl.RetryTag(original, packet); tag != "" || ok {
		t.Errorf("%d and %d bytes: %x %v", len(original), len(packet), tag, ok)
	}
}

func wantRetry(t *testing.T, h impl.Header, token, scid string, want impl.Header) {
	t.Helper()
	if retry, ok := impl.RetryPacket(h, token, scid); !sameHeader(retry, want) || !ok {
		t.Errorf("%#v, %x, %x: %#v %v, not %#v", h, token, scid, retry, ok, want)
	}
}

func wantNoRetry(t *testing.T, h impl.Header, token, scid, why string) {
	t.Helper()
	if retry, ok := impl.RetryPacket(h, token, scid); !sameHeader(retry, impl.Header{}) || ok {
		t.Errorf("%s: %#v, %x, %x: %#v %v", why, h, token, scid, retry, ok)
	}
}

// retryTold is what RetryPacket must answer, by Go's own library.
func retryTold(t *testing.T, h impl.Header, token, scid string) impl.Header {
	t.Helper()
	tag := tagElsewhere(t, h.Dcid, retryElsewhere(h.Version, h.Scid, scid, token))
	return impl.Header{Form: impl.FormRetry, Version: h.Version, Dcid: h.Scid, Scid: scid, Payload: token + tag}
}

// The first tag is that of RFC 9001's own Retry packet, A.4; the others were reckoned by an AES in Galois/counter mode written in Python.
func TestTagsToldElsewhere(t *testing.T) {
	for _, c := range [][3]string{
		{unhex("8394c8f03e515708"), unhex("ff000000010008f067a5502a4262b5746f6b656e"), "04a265ba2eff4d829058fb3f0f2496ba"},
		{"", "", "3474f5c9a30e26116623770f28545090"},
		{"\x00", "", "435c015c90a0197a6dc93f92b1f7a6f4"},
		{"", "\x00", "970b360ef3e3ff1d3dd89bf228a44f48"},
		{letters(20), letters(1000), "2cf8c4ff17613353460527643050909e"},
		{"orig", "packet", "138662dd47402210a06a5e7857147647"},
	} {
		wantTag(t, c[0], c[1], unhex(c[2]))
		if tagElsewhere(t, c[0], c[1]) != unhex(c[2]) {
			t.Errorf("not as the library has it: %s", c[2])
		}
	}
}

func TestTagsOfTheEdges(t *testing.T) {
	var s steps
	for _, original := range []int{0, 1, 8, 14, 15, 16, impl.MaxId - 1, impl.MaxId} {
		for _, packet := range []int{0, 1, 2, 15, 16, 17, 47, 247, 999, 1000} {
			a, b := s.text(original), s.text(packet)
			wantTag(t, a, b, tagElsewhere(t, a, b))
		}
	}
	for _, c := range [][2]int{{21, 0}, {21, 20}, {21, 1000}, {0, 1001}, {20, 1001}, {21, 1001}, {22, 5}, {256, 5}, {1500, 0}, {5, 1500}, {0, 1499}, {5, 100000}, {100000, 5}} {
		wantNoTag(t, letters(c[0]), letters(c[1]))
	}
}

// The tag hangs on every bit, and on where the original ends.
func TestTagsOverAll(t *testing.T) {
	original, packet := unhex("8394c8f03e515708"), unhex("ff000000010008f067a5502a4262b5746f6b656e")
	tag, _ := impl.RetryTag(original, packet)
	other := func(a, b string) {
		t.Helper()
		if other, ok := impl.RetryTag(a, b); other == tag || !ok {
			t.Errorf("%x and %x: %x %v", a, b, other, ok)
		}
	}
	for i := range 8 * len(original) {
		other(turned(original, i), packet)
	}
	for i := range 8 * len(packet) {
		other(original, turned(packet, i))
	}
	for n := range len(original) {
		other(original[:n], original[n:]+packet)
	}
	for n := 1; n <= 12; n++ {
		other(original+packet[:n], packet[n:])
	}
	other(original, packet+"\x00")
	other("", packet)
	other(original, "")
}

func TestRetriesToldElsewhere(t *testing.T) {
	for _, c := range []struct {
		h           impl.Header
		token, scid string
		want        impl.Header
		bytes       string
	}{
		// RFC 9001's own, but for its unused bits, which are 0 here.
		{impl.Header{Version: 1, Dcid: unhex("8394c8f03e515708"), Payload: "p"}, "token", unhex("f067a5502a4262b5"),
			impl.Header{Form: impl.FormRetry, Version: 1, Scid: unhex("f067a5502a4262b5"), Payload: "token" + unhex("3e1f4242960d20f9b13d9f4e00027741")},
			"f0 00000001 00 08f067a5502a4262b5 746f6b656e 3e1f4242960d20f9b13d9f4e00027741"},
		{impl.Header{Bits: 15, Version: 0x6b3343cf, Dcid: "first", Scid: "client", Token: "old", Payload: letters(1200)}, "t", "server",
			impl.Header{Form: impl.FormRetry, Version: 0x6b3343cf, Dcid: "client", Scid: "server", Payload: "t" + unhex("eaf0b53df8be19f99cc30b4151733dd0")},
			"f0 6b3343cf 06636c69656e74 06736572766572 74 eaf0b53df8be19f99cc30b4151733dd0"},
		{impl.Header{Version: 1, Payload: "p"}, "t", "",
			impl.Header{Form: impl.FormRetry, Version: 1, Payload: "t" + unhex("bcadef8b2b785c1676fe1517c38d0cbd")},
			"f0 00000001 00 00 74 bcadef8b2b785c1676fe1517c38d0cbd"},
		{impl.Header{Version: mostVersion, Dcid: letters(20), Scid: letters(20), Payload: "p"}, letters(200), letters(20),
			impl.Header{Form: impl.FormRetry, Version: mostVersion, Dcid: letters(20), Scid: letters(20), Payload: letters(200) + unhex("6a6800a012ea774869a9ba2d3eeb40aa")},
			""},
	} {
		wantRetry(t, c.h, c.token, c.scid, c.want)
		if !sameHeader(retryTold(t, c.h, c.token, c.scid), c.want) {
			t.Errorf("not as the library has it: %#v", c.want)
		}
		retry, _ := impl.RetryPacket(c.h, c.token, c.scid)
		s, ok := impl.HeaderBytes(retry)
		if !ok || c.bytes != "" && s != unhex(c.bytes) {
			t.Errorf("%x %v, not %s", s, ok, c.bytes)
		}
		back, size, code := impl.ReadHeader(s, 0)
		if !sameHeader(back, retry) || size != len(s) || code != impl.ReadOk {
			t.Errorf("read %#v %d %d", back, size, code)
		}
	}
}

func TestRetriesOfTheEdges(t *testing.T) {
	var s steps
	for _, dcid := range []int{0, 1, impl.MaxId} {
		for _, scid := range []int{0, 1, impl.MaxId} {
			for _, own := range []int{0, 1, impl.MaxId} {
				for _, token := range []int{1, 2, 63, 64, impl.MaxData - 1, impl.MaxData} {
					h := impl.Header{Bits: s.below(16), Version: 1 + s.below(mostVersion), Dcid: s.text(dcid), Scid: s.text(scid), Token: s.text(s.below(201)), Payload: s.text(1 + s.below(1200))}
					tok, id := s.text(token), s.text(own)
					wantRetry(t, h, tok, id, retryTold(t, h, tok, id))
				}
			}
		}
	}
}

func TestRetriesRefused(t *testing.T) {
	good := impl.Header{Version: 1, Dcid: "d", Scid: "s", Token: "t", Payload: "p"}
	wantRetry(t, good, "token", "id", retryTold(t, good, "token", "id"))
	for _, n := range []int{0, 201, 202, 1000, 1200, 5000} {
		wantNoRetry(t, good, letters(n), "id", "a token of another length")
	}
	for _, n := range []int{21, 22, 255, 256, 257, 5000} {
		wantNoRetry(t, good, "token", letters(n), "a long scid")
		wantNoRetry(t, good, letters(200), letters(n), "a long scid")
	}
	for _, h := range spoiltHeaders(good) {
		wantNoRetry(t, h, "token", "id", "a header that is not good")
	}
	for _, bits := range []int{-1, 16, minInt, maxInt} {
		h := good
		h.Bits = bits
		wantNoRetry(t, h, "token", "id", "no Bits")
	}
	for _, payload := range []int{0, 1201, 2000} {
		h := good
		h.Payload = letters(payload)
		wantNoRetry(t, h, "token", "id", "no Payload")
	}
	wantNoRetry(t, impl.Header{}, "token", "id", "nothing")
	wantNoRetry(t, impl.Header{}, "", "", "nothing at all")
}

func TestRetriesOfOtherForms(t *testing.T) {
	asked := 0
	for _, c := range headersAsTold() {
		if c.h.Form == impl.FormInitial {
			asked++
			wantRetry(t, c.h, "token", "id", retryTold(t, c.h, "token", "id"))
		} else {
			wantNoRetry(t, c.h, "token", "id", c.name)
		}
	}
	if asked == 0 {
		t.Error("none is asked to come again")
	}
	for _, form := range []int{-1, 1, 2, 3, 4, 5, 6, 16, 256, minInt, maxInt} {
		wantNoRetry(t, impl.Header{Form: form, Version: 1, Dcid: "d", Scid: "s", Payload: "p"}, "token", "id", "another form")
	}
}
