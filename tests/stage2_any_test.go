package tests

import (
	"slices"
	"strings"
	"testing"

	"loop.example/g00206/impl"
)

// checkHeader holds what is read against what is said of every answer.
func checkHeader(t *testing.T, s string, short int) {
	t.Helper()
	h, size, code := impl.ReadHeader(s, short)
	if code != impl.ReadOk {
		if size != 0 || !sameHeader(h, impl.Header{}) || code < impl.ReadShort || code > impl.ReadForm {
			t.Fatalf("%x: %+v %d %d", s, h, size, code)
		}
		return
	}
	if size < 1 || size > len(s) || takesAll(h.Form) && size != len(s) || !impl.GoodHeader(h) {
		t.Fatalf("%x: %+v %d", s, h, size)
	}
	if overlaps(h.Dcid, s) || overlaps(h.Scid, s) || overlaps(h.Token, s) || overlaps(h.Payload, s) {
		t.Fatalf("%x: an answer lies in what was read", s)
	}
	told, ok := impl.HeaderBytes(h)
	back, took, code := impl.ReadHeader(told, short)
	if !ok || took != len(told) || code != impl.ReadOk || !sameHeader(back, h) {
		t.Fatalf("%x: %+v came back as %+v", s, h, back)
	}
	if takesAll(h.Form) && told != s {
		t.Fatalf("%x is told as %x", s, told)
	}
	if id, long, ok := impl.DestOf(s, short); id != h.Dcid || long != (h.Form != impl.FormShort) || !ok || overlaps(id, s) {
		t.Fatalf("%x: %q %v %v", s, id, long, ok)
	}
}

func checkCut(t *testing.T, s string, short int) bool {
	t.Helper()
	l, ok := impl.CutDatagram(s, short)
	if !ok && len(l) != 0 || ok && strings.Join(l, "") != s {
		t.Fatalf("%x: %x %v", s, l, ok)
	}
	for _, p := range l {
		if _, size, code := impl.ReadHeader(p, short); size != len(p) || code != impl.ReadOk || overlaps(p, s) {
			t.Fatalf("%x: %x %d %d", s, p, size, code)
		}
	}
	return ok
}

func TestReadAnyPacketBytes(t *testing.T) {
	var s steps
	for range 40000 {
		b := []byte(s.text(1 + s.below(60)))
		if s.below(4) > 0 && len(b) > 8 {
			b[0] |= 192
			b[1], b[2], b[3], b[4] = 0, 0, 0, byte(s.below(2))
			b[5] &= 3
			b[6+int(b[5])%3] &= 7
		}
		short := s.below(24) - 2
		checkHeader(t, string(b), short)
		checkCut(t, string(b), short)
	}
}

// someHeader is a header of a form that is told; it need not be good.
func (s *steps) someHeader() impl.Header {
	all := headersAsTold()
	h := all[s.below(len(all))].h
	h.Versions = slices.Clone(h.Versions)
	switch s.below(8) {
	case 0:
		h.Bits = s.below(20) - 2
	case 1:
		h.Version = s.below(3) * s.below(mostVersion) / 2
	case 2:
		h.Dcid = s.text(s.below(23))
	case 3:
		h.Scid = s.text(s.below(23))
	case 4:
		h.Token = s.text(s.below(220))
	case 5:
		h.Payload = s.text(s.below(130) * s.below(12))
	case 6:
		h.Versions = make([]int, s.below(23))
		for i := range h.Versions {
			h.Versions[i] = s.below(mostVersion)
		}
	}
	return h
}

func TestGoodHeadersComeBack(t *testing.T) {
	var s steps
	good := 0
	for range 30000 {
		h := s.someHeader()
		b, ok := impl.HeaderBytes(h)
		if ok != impl.GoodHeader(h) || ok == (b == "") {
			t.Fatalf("%+v: %x %v", h, b, ok)
		}
		if !ok {
			continue
		}
		good++
		back, size, code := impl.ReadHeader(b, shortOf(h))
		if !sameHeader(back, h) || size != len(b) || code != impl.ReadOk {
			t.Fatalf("%+v: %x came back as %+v", h, b, back)
		}
		checkHeader(t, b, shortOf(h))
	}
	if good < 10000 {
		t.Error(good)
	}
}

// Long packets one behind the other, and at most one at the end that takes all.
func TestDatagramsComeBack(t *testing.T) {
	var s steps
	cut := 0
	for range 3000 {
		var l []string
		for n := s.below(6); len(l) < n; {
			h := s.someHeader()
			b, ok := impl.HeaderBytes(h)
			if !ok || h.Form == impl.FormShort && len(h.Dcid) != 4 {
				continue
			}
			l = append(l, b)
			if takesAll(h.Form) {
				break
			}
		}
		whole := strings.Join(l, "")
		got, ok := impl.CutDatagram(whole, 4)
		if ok != (len(whole) <= impl.MaxPayload) || ok && !slices.Equal(got, l) {
			t.Fatalf("%x: %x %v", l, got, ok)
		}
		if checkCut(t, whole, 4) {
			cut++
		}
	}
	if cut < 1000 {
		t.Error(cut)
	}
}

func TestNoHeaderIsChanged(t *testing.T) {
	whole := []int{3, 2, 9, 77, 78}
	before := slices.Clone(whole)
	h := impl.Header{Form: impl.FormVersions, Dcid: "d", Scid: "s", Versions: whole[:2]}
	impl.GoodHeader(h)
	s, ok := impl.HeaderBytes(h)
	// What lies behind the list's length is no part of it.
	if want := "\xc0\x00\x00\x00\x00\x01d\x01s\x00\x00\x00\x03\x00\x00\x00\x02"; s != want || !ok {
		t.Errorf("%x %v", s, ok)
	}
	initial := impl.Header{Version: 9, Payload: "p"}
	v, ok := impl.VersionAnswer(initial, whole[:2])
	if !ok || !slices.Equal(v.Versions, before[:2]) {
		t.Error(v, ok)
	}
	impl.VersionAnswer(initial, whole)
	v.Versions[0] = 1000
	v.Versions = append(v.Versions, 1001)
	if !slices.Equal(whole, before) {
		t.Error(whole)
	}
}

func TestHeaderAnswersAreNewMemory(t *testing.T) {
	h := impl.Header{Version: 9, Dcid: letters(20), Scid: letters(18), Token: letters(90), Payload: letters(100)}
	v, ok := impl.VersionAnswer(h, []int{1, 2})
	if !ok || overlaps(v.Dcid, h.Scid) || overlaps(v.Scid, h.Dcid) {
		t.Error("an answer lies in what was asked")
	}
	s, _ := impl.HeaderBytes(impl.Header{Form: impl.FormVersions, Versions: []int{1, 2}})
	one, _, _ := impl.ReadHeader(s, 8)
	two, _, _ := impl.ReadHeader(s, 8)
	one.Versions[0] = 1000
	if !slices.Equal(two.Versions, []int{1, 2}) {
		t.Error(two)
	}
	d, _ := impl.HeaderBytes(h)
	l, ok := impl.CutDatagram(d+d, 8)
	if !ok || len(l) != 2 || overlaps(l[0], l[1]) {
		t.Error(l, ok)
	}
	short := impl.Header{Form: impl.FormShort, Payload: letters(50)}
	b, _ := impl.HeaderBytes(short)
	if overlaps(b, short.Payload) || overlaps(d, h.Payload) {
		t.Error("bytes lie in the header")
	}
}
