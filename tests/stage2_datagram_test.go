package tests

import (
	"slices"
	"strings"
	"testing"

	"loop.example/g00206/impl"
)

func wantCut(t *testing.T, short int, want ...string) {
	t.Helper()
	s := strings.Join(want, "")
	if l, ok := impl.CutDatagram(s, short); !slices.Equal(l, want) || !ok {
		t.Errorf("%x: %x %v", s, l, ok)
	}
}

func wantNoCut(t *testing.T, s string, short int) {
	t.Helper()
	if l, ok := impl.CutDatagram(s, short); len(l) != 0 || ok {
		t.Errorf("%x: %x %v", s, l, ok)
	}
}

func TestPacketsOneBehindTheOther(t *testing.T) {
	initial := "\xc0\x00\x00\x00\x01\x01d\x01s\x00\x40\x01p"
	wide := "\xc1\x00\x00\x00\x01\x01d\x01s\x40\x02tt\x80\x00\x00\x03pay"
	zero := "\xd0\x00\x00\x00\x01\x00\x00\x01z"
	hand := "\xe2\x00\x00\x00\x09\x01d\x00\x40\x02hh"
	retry := "\xf0\x00\x00\x00\x01\x01d\x01stag"
	versions := "\xc0\x00\x00\x00\x00\x01d\x01s\x00\x00\x00\x01"
	short := "\x45idrest"
	wantCut(t, 2)
	for _, s := range []string{initial, wide, zero, hand, retry, versions, short} {
		wantCut(t, 2, s)
	}
	wantCut(t, 2, initial, hand, short)
	wantCut(t, 2, initial, zero, hand, wide, retry)
	wantCut(t, 2, wide, wide, versions)
	wantCut(t, 20, initial, hand)
	// What goes up to the end has all that stands behind it.
	wantCut(t, 2, hand, short+initial+"\x00\x00")
	wantCut(t, 2, retry+initial)
	for _, s := range []string{"\x00", "\x3f", "\x70idrest", "\x40i", "\x40", "\xc0", hand[:len(hand)-1], "\x80" + hand[1:]} {
		wantNoCut(t, s, 2)
		wantNoCut(t, initial+s, 2)
		wantNoCut(t, initial+wide+s, 2)
	}
	wantNoCut(t, "\x00"+initial, 2)
	wantNoCut(t, versions+"\x00", 2)
}

func TestDatagramAtItsLimit(t *testing.T) {
	head := "\xd0\x00\x00\x00\x01\x00\x00"
	full := head + varint(mostPacket, 2) + letters(mostPacket)
	left := impl.MaxPayload - len(full)
	wantCut(t, 4, full, "\x40"+letters(left-1))
	wantNoCut(t, full+"\x40"+letters(left), 4)
	rest := head + varint(left-9, 2) + letters(left-9)
	wantCut(t, 4, full, rest)
	wantNoCut(t, full+rest+"\x40", 0)
	wantNoCut(t, strings.Repeat("\x40", impl.MaxPayload+1), 0)
}

func TestManySmallPackets(t *testing.T) {
	small := "\xe0\x00\x00\x00\x01\x00\x00\x01p"
	wantCut(t, 0, slices.Repeat([]string{small}, impl.MaxPayload/len(small))...)
}

func wantDest(t *testing.T, s string, short int, wantId string, wantLong bool) {
	t.Helper()
	if id, long, ok := impl.DestOf(s, short); id != wantId || long != wantLong || !ok {
		t.Errorf("%x, %d: %q %v %v", s, short, id, long, ok)
	}
}

func wantNoDest(t *testing.T, s string, short int) {
	t.Helper()
	if id, long, ok := impl.DestOf(s, short); id != "" || long || ok {
		t.Errorf("%x, %d: %q %v %v", s, short, id, long, ok)
	}
}

// Whatever is cut off behind the Dcid is not missed, and within it, is.
func TestDestOfEachForm(t *testing.T) {
	for _, c := range headersAsTold() {
		long := c.h.Form != impl.FormShort
		end := 1 + len(c.h.Dcid)
		if long {
			end = 6 + len(c.h.Dcid)
		}
		for i := range len(c.s) + 1 {
			if i < end {
				wantNoDest(t, c.s[:i], shortOf(c.h))
			} else {
				wantDest(t, c.s[:i], shortOf(c.h), c.h.Dcid, long)
			}
		}
		wantDest(t, c.s[:end]+letters(2000), shortOf(c.h), c.h.Dcid, long)
	}
}

func TestDestIsReadAlone(t *testing.T) {
	id := letters(impl.MaxId)
	// What follows the Dcid is no good header.
	wantDest(t, "\xc0\x00\x00\x00\x01\x02de\xff", 8, "de", true)
	wantDest(t, "\xf3\x00\x00\x00\x01\x14"+id, 0, id, true)
	wantDest(t, "\xe3\x12\x34\x56\x78\x00", 8, "", true)
	// Nor do the bits of the first byte behind the highest one, or the Version, move it.
	for low := range 128 {
		wantDest(t, string([]byte{byte(low)})+id, 20, id, false)
		wantDest(t, string([]byte{byte(low)})+id, 3, "abc", false)
		wantDest(t, string([]byte{byte(low)}), 0, "", false)
		wantNoDest(t, string([]byte{byte(low)})+id[:19], 20)
		for _, version := range []string{"\x00\x00\x00\x00", "\x00\x00\x00\x01", "\xff\xff\xff\xff"} {
			head := string([]byte{byte(128 + low)}) + version
			wantDest(t, head+"\x03abc", 8, "abc", true)
			wantDest(t, head+"\x14"+id, 8, id, true)
			wantDest(t, head+"\x00", 8, "", true)
			wantNoDest(t, head+"\x03ab", 8)
			wantNoDest(t, head, 0)
			wantNoDest(t, head+"\x15"+letters(30), 8)
		}
	}
	wantNoDest(t, "", 0)
	wantNoDest(t, "\x40"+id[:19], 20)
	wantNoDest(t, "\xc0\x00\x00\x00\x01\x15"+letters(30), 8)
	wantNoDest(t, "\xc0\x00\x00\x00\x01\xff"+letters(300), 8)
}

// A second highest bit of 0 hinders ReadHeader and CutDatagram alone.
func TestDestWhereNoHeaderIsRead(t *testing.T) {
	for _, c := range headersAsTold() {
		long := c.h.Form != impl.FormShort
		s := string([]byte{c.s[0] &^ 64}) + c.s[1:]
		wantDest(t, s, shortOf(c.h), c.h.Dcid, long)
		if _, _, code := impl.ReadHeader(s, shortOf(c.h)); code != impl.ReadKind {
			t.Errorf("%x: %d", s, code)
		}
		wantNoCut(t, s, shortOf(c.h))
		for _, short := range []int{-1, impl.MaxId + 1, minInt, maxInt} {
			wantNoDest(t, s, short)
		}
	}
}

func TestVersionAnswerGoesBack(t *testing.T) {
	h := impl.Header{Form: impl.FormInitial, Bits: 9, Version: 7, Dcid: "dest", Scid: "sc", Token: "t", Payload: "p"}
	for _, l := range [][]int{{1}, {mostVersion}, {8, 6, 8}, manyVersions(21)[2:], slices.Repeat([]int{3}, 20)} {
		v, ok := impl.VersionAnswer(h, l)
		want := impl.Header{Form: impl.FormVersions, Dcid: "sc", Scid: "dest", Versions: l}
		if !sameHeader(v, want) || !ok || !impl.GoodHeader(v) {
			t.Errorf("%v: %+v %v", l, v, ok)
		}
		s, _ := impl.HeaderBytes(v)
		if back, size, code := impl.ReadHeader(s, 8); !sameHeader(back, want) || size != len(s) || code != impl.ReadOk {
			t.Errorf("%v: %+v %d %d", l, back, size, code)
		}
		if id, long, ok := impl.DestOf(s, 8); id != h.Scid || !long || !ok {
			t.Errorf("%v: to %q %v %v", l, id, long, ok)
		}
	}
}

func TestNoVersionAnswer(t *testing.T) {
	h := impl.Header{Form: impl.FormInitial, Version: 7, Dcid: "dest", Scid: "sc", Payload: "p"}
	refuse := func(h impl.Header, l []int) {
		t.Helper()
		if v, ok := impl.VersionAnswer(h, l); !sameHeader(v, impl.Header{}) || ok {
			t.Errorf("%+v, %v: %+v %v", h, l, v, ok)
		}
	}
	for _, l := range [][]int{nil, {}, {7}, {1, 7}, {7, 1}, {0}, {1, 0}, {-1}, {mostVersion + 1}, {1, mostVersion + 1}, {minInt}, {maxInt}, slices.Repeat([]int{3}, 21)} {
		refuse(h, l)
	}
	for _, c := range headersAsTold() {
		if c.h.Form != impl.FormInitial {
			refuse(c.h, []int{99})
		}
	}
	h.Payload = ""
	refuse(h, []int{99})
}
