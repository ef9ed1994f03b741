package tests

import (
	"testing"

	"loop.example/g00206/impl"
)

const mostVersion = 4294967295
const mostPacket = 1200

type headerCase struct {
	name string
	h    impl.Header
	s    string
}

// headersAsTold has each form with its bytes, written by hand.
func headersAsTold() []headerCase {
	id20 := letters(20)
	return []headerCase{
		{"initial", impl.Header{Form: impl.FormInitial, Version: 1, Dcid: "d", Scid: "s", Payload: "p"}, "\xc0\x00\x00\x00\x01\x01d\x01s\x00\x40\x01p"},
		{"initial with a token", impl.Header{Form: impl.FormInitial, Bits: 15, Version: 0x01020304, Dcid: "de", Scid: "scr", Token: "tok", Payload: "pay"}, "\xcf\x01\x02\x03\x04\x02de\x03scr\x03tok\x40\x03pay"},
		{"initial with a token of 64 bytes", impl.Header{Version: 1, Token: letters(64), Payload: "p"}, "\xc0\x00\x00\x00\x01\x00\x00\x40\x40" + letters(64) + "\x40\x01p"},
		{"zero", impl.Header{Form: impl.FormZero, Bits: 1, Version: 1, Dcid: "d", Scid: "", Payload: "pp"}, "\xd1\x00\x00\x00\x01\x01d\x00\x40\x02pp"},
		{"handshake", impl.Header{Form: impl.FormHandshake, Bits: 3, Version: 2, Dcid: "", Scid: "s", Payload: "hand"}, "\xe3\x00\x00\x00\x02\x00\x01s\x40\x04hand"},
		{"handshake of 300 bytes", impl.Header{Form: impl.FormHandshake, Version: 256, Dcid: id20, Scid: id20, Payload: letters(300)}, "\xe0\x00\x00\x01\x00\x14" + id20 + "\x14" + id20 + "\x41\x2c" + letters(300)},
		{"retry", impl.Header{Form: impl.FormRetry, Bits: 4, Version: mostVersion, Dcid: "d", Scid: "s", Payload: "token and tag"}, "\xf4\xff\xff\xff\xff\x01d\x01stoken and tag"},
		{"versions", impl.Header{Form: impl.FormVersions, Bits: 10, Dcid: "d", Scid: "sc", Versions: []int{1}}, "\xca\x00\x00\x00\x00\x01d\x02sc\x00\x00\x00\x01"},
		{"three versions", impl.Header{Form: impl.FormVersions, Versions: []int{0, mostVersion, 0x0a0b0c0d}}, "\xc0\x00\x00\x00\x00\x00\x00\x00\x00\x00\x00\xff\xff\xff\xff\x0a\x0b\x0c\x0d"},
		{"short", impl.Header{Form: impl.FormShort, Bits: 7, Dcid: "dest", Payload: "rest"}, "\x47destrest"},
		{"short without an id", impl.Header{Form: impl.FormShort, Payload: "rest"}, "\x40rest"},
		{"short without a payload", impl.Header{Form: impl.FormShort, Bits: 15, Dcid: id20}, "\x4f" + id20},
		{"short with nothing", impl.Header{Form: impl.FormShort}, "\x40"},
	}
}

// shortOf is what ReadHeader must be told to read this header: only a short one hangs on it.
func shortOf(h impl.Header) int {
	if h.Form == impl.FormShort {
		return len(h.Dcid)
	}
	return 8
}

// takesAll tells of which forms a packet goes up to the end of what is read.
func takesAll(form int) bool {
	return form == impl.FormRetry || form == impl.FormVersions || form == impl.FormShort
}

func TestFormsAreCountedUp(t *testing.T) {
	for i, form := range []int{impl.FormInitial, impl.FormZero, impl.FormHandshake, impl.FormRetry, impl.FormVersions, impl.FormShort} {
		if form != i {
			t.Error(i, form)
		}
	}
	if impl.MaxId != 20 {
		t.Error(impl.MaxId)
	}
}

func TestEachHeaderAndItsBytes(t *testing.T) {
	for _, c := range headersAsTold() {
		if !impl.GoodHeader(c.h) {
			t.Errorf("%s: not good", c.name)
		}
		if s, ok := impl.HeaderBytes(c.h); s != c.s || !ok {
			t.Errorf("%s: bytes %x %v, not %x", c.name, s, ok, c.s)
		}
		h, size, code := impl.ReadHeader(c.s, shortOf(c.h))
		if !sameHeader(h, c.h) || size != len(c.s) || code != impl.ReadOk {
			t.Errorf("%s: read %+v %d %d", c.name, h, size, code)
		}
	}
}

// A long packet tells its own length; the others go up to the end.
func TestBytesBehindAHeader(t *testing.T) {
	behind := "\xff\x00\x01\x02"
	for _, c := range headersAsTold() {
		h, size, code := impl.ReadHeader(c.s+behind, shortOf(c.h))
		want, wantSize := c.h, len(c.s)
		if takesAll(want.Form) {
			wantSize += len(behind)
			if want.Form == impl.FormVersions {
				want.Versions = append(want.Versions[:len(want.Versions):len(want.Versions)], 0xff000102)
			} else {
				want.Payload += behind
			}
		}
		if !sameHeader(h, want) || size != wantSize || code != impl.ReadOk {
			t.Errorf("%s: %+v %d %d", c.name, h, size, code)
		}
	}
}

// Where a short packet's Dcid ends is told by the argument alone.
func TestShortTellsTheLengthOfAnId(t *testing.T) {
	s := "\x41" + letters(25)
	for short := 0; short <= impl.MaxId; short++ {
		want := impl.Header{Form: impl.FormShort, Bits: 1, Dcid: letters(25)[:short], Payload: letters(25)[short:]}
		if h, size, code := impl.ReadHeader(s, short); !sameHeader(h, want) || size != len(s) || code != impl.ReadOk {
			t.Errorf("%d: %+v %d %d", short, h, size, code)
		}
	}
}

// Of a long packet it must be one that may be, and changes nothing.
func TestShortDoesNotCountForLongPackets(t *testing.T) {
	for _, c := range headersAsTold() {
		if c.h.Form == impl.FormShort {
			continue
		}
		for short := 0; short <= impl.MaxId; short++ {
			if h, size, code := impl.ReadHeader(c.s, short); !sameHeader(h, c.h) || size != len(c.s) || code != impl.ReadOk {
				t.Errorf("%s: %+v %d %d", c.name, h, size, code)
			}
		}
	}
}

func manyVersions(n int) []int {
	l := make([]int, n)
	for i := range l {
		l[i] = i * 7
	}
	return l
}

func TestGoodHeadersAtTheEdges(t *testing.T) {
	id := letters(impl.MaxId)
	token := letters(impl.MaxData)
	full := letters(mostPacket)
	for i, h := range []impl.Header{
		{Form: impl.FormInitial, Version: 1, Payload: "p"},
		{Form: impl.FormInitial, Bits: 15, Version: mostVersion, Dcid: id, Scid: id, Token: token, Payload: full},
		{Form: impl.FormZero, Version: 1, Payload: "p"},
		{Form: impl.FormZero, Bits: 15, Version: mostVersion, Dcid: id, Scid: id, Payload: full},
		{Form: impl.FormHandshake, Version: 1, Payload: "p"},
		{Form: impl.FormHandshake, Bits: 15, Version: mostVersion, Dcid: id, Scid: id, Payload: full},
		{Form: impl.FormRetry, Version: 1, Payload: "p"},
		{Form: impl.FormRetry, Bits: 15, Version: mostVersion, Dcid: id, Scid: id, Payload: full},
		{Form: impl.FormVersions, Versions: []int{0}},
		{Form: impl.FormVersions, Bits: 15, Dcid: id, Scid: id, Versions: manyVersions(20)},
		{Form: impl.FormVersions, Versions: []int{5, 5, mostVersion}},
		{Form: impl.FormShort},
		{Form: impl.FormShort, Bits: 15, Dcid: id, Payload: full},
	} {
		s, ok := impl.HeaderBytes(h)
		if !ok || !impl.GoodHeader(h) {
			t.Errorf("%d: not good", i)
		}
		back, size, code := impl.ReadHeader(s, shortOf(h))
		if !sameHeader(back, h) || size != len(s) || code != impl.ReadOk {
			t.Errorf("%d: %+v %d %d", i, back, size, code)
		}
	}
}

func refuseHeader(t *testing.T, name string, h impl.Header) {
	t.Helper()
	if impl.GoodHeader(h) {
		t.Errorf("%s: good: %+v", name, h)
	}
	if s, ok := impl.HeaderBytes(h); s != "" || ok {
		t.Errorf("%s: %x %v", name, s, ok)
	}
	if v, ok := impl.VersionAnswer(h, []int{9}); !sameHeader(v, impl.Header{}) || ok {
		t.Errorf("%s: an answer %+v %v", name, v, ok)
	}
}

// Each good header is made worse in one field at a time.
func TestHeadersBeyondTheEdges(t *testing.T) {
	for _, c := range headersAsTold() {
		worse := func(change func(h *impl.Header)) {
			t.Helper()
			h := c.h
			change(&h)
			refuseHeader(t, c.name, h)
		}
		for _, n := range []int{-1, 16, 64, minInt, maxInt} {
			worse(func(h *impl.Header) { h.Bits = n })
		}
		for _, n := range []int{-1, mostVersion + 1, minInt, maxInt} {
			worse(func(h *impl.Header) { h.Version = n })
		}
		for _, n := range []int{-1, 6, 7, minInt, maxInt} {
			worse(func(h *impl.Header) { h.Form = n })
		}
		worse(func(h *impl.Header) { h.Dcid = letters(impl.MaxId + 1) })
		worse(func(h *impl.Header) { h.Scid = letters(impl.MaxId + 1) })
		worse(func(h *impl.Header) { h.Token = letters(impl.MaxData + 1) })
		worse(func(h *impl.Header) { h.Payload = letters(mostPacket + 1) })
	}
}

func TestWhatAFormDoesNotName(t *testing.T) {
	for _, c := range headersAsTold() {
		h := c.h
		if h.Form != impl.FormInitial {
			h.Token = "t"
			refuseHeader(t, c.name+" and a token", h)
		}
		h = c.h
		if h.Form != impl.FormVersions {
			h.Versions = []int{1}
			refuseHeader(t, c.name+" and versions", h)
		}
		h = c.h
		switch h.Form {
		case impl.FormVersions:
			h.Payload = "p"
			refuseHeader(t, c.name+" and a payload", h)
			h = c.h
			h.Version = 1
			refuseHeader(t, c.name+" and a version", h)
		case impl.FormShort:
			h.Scid = "s"
			refuseHeader(t, c.name+" and a second id", h)
			h = c.h
			h.Version = 1
			refuseHeader(t, c.name+" and a version", h)
		default:
			h.Payload = ""
			refuseHeader(t, c.name+" without a payload", h)
			h = c.h
			h.Version = 0
			refuseHeader(t, c.name+" without a version", h)
		}
	}
}

func TestListsOfVersions(t *testing.T) {
	for _, l := range [][]int{nil, {}, manyVersions(21), {-1}, {1, -1}, {mostVersion + 1}, {1, 2, mostVersion + 1}, {minInt}, {maxInt}} {
		refuseHeader(t, "versions", impl.Header{Form: impl.FormVersions, Versions: l})
	}
	h := impl.Header{Form: impl.FormShort, Versions: []int{}}
	if s, ok := impl.HeaderBytes(h); s != "\x40" || !ok || !impl.GoodHeader(h) {
		t.Errorf("%x %v", s, ok)
	}
}
