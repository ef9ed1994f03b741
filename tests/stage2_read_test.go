package tests

import (
	"strings"
	"testing"

	"loop.example/g00206/impl"
)

func wantHeaderFault(t *testing.T, s string, short int, want int) {
	t.Helper()
	h, size, code := impl.ReadHeader(s, short)
	if !sameHeader(h, impl.Header{}) || size != 0 || code != want {
		t.Errorf("%x, %d: %+v %d %d, not the fault %d", s, short, h, size, code, want)
	}
}

func TestLengthsAsVarintsOfAnySize(t *testing.T) {
	token, payload := "tok", letters(50)
	start := "\xc2\x00\x00\x00\x01\x01d\x01s"
	initial := impl.Header{Form: impl.FormInitial, Bits: 2, Version: 1, Dcid: "d", Scid: "s", Token: token, Payload: payload}
	for _, a := range []int{1, 2, 4, 8} {
		for _, b := range []int{1, 2, 4, 8} {
			s := start + varint(len(token), a) + token + varint(len(payload), b) + payload
			h, size, code := impl.ReadHeader(s+"behind", 0)
			if !sameHeader(h, initial) || size != len(s) || code != impl.ReadOk {
				t.Errorf("%d %d: %+v %d %d", a, b, h, size, code)
			}
		}
	}
	for _, form := range []int{impl.FormZero, impl.FormHandshake} {
		for _, b := range []int{1, 2, 4, 8} {
			want := impl.Header{Form: form, Version: 1, Dcid: "d", Scid: "s", Payload: payload}
			s := string([]byte{byte(192 + 16*form)}) + start[1:] + varint(len(payload), b) + payload
			h, size, code := impl.ReadHeader(s+"behind", 0)
			if !sameHeader(h, want) || size != len(s) || code != impl.ReadOk {
				t.Errorf("%d %d: %+v %d %d", form, b, h, size, code)
			}
		}
	}
}

// All that is cut off of a packet with lengths lacks; the others end where they must at least.
func TestReadCutOffHeaders(t *testing.T) {
	least := map[int]int{impl.FormRetry: 1, impl.FormVersions: 4}
	for _, c := range headersAsTold() {
		for i := range len(c.s) {
			s := c.s[:i]
			if !takesAll(c.h.Form) {
				wantHeaderFault(t, s, 8, impl.ReadShort)
				continue
			}
			head := 1 + len(c.h.Dcid)
			if c.h.Form != impl.FormShort {
				head = 7 + len(c.h.Dcid) + len(c.h.Scid)
			}
			whole := i >= head+least[c.h.Form]
			if whole && c.h.Form == impl.FormVersions {
				whole = (i-head)%4 == 0
			}
			if !whole {
				wantHeaderFault(t, s, shortOf(c.h), impl.ReadShort)
			} else if h, size, code := impl.ReadHeader(s, shortOf(c.h)); size != i || code != impl.ReadOk || !strings.HasPrefix(c.h.Payload, h.Payload) {
				t.Errorf("%s: %x: %+v %d %d", c.name, s, h, size, code)
			}
		}
	}
}

func TestSecondHighestBit(t *testing.T) {
	for first := range 256 {
		if first&64 != 0 {
			continue
		}
		mark := string([]byte{byte(first)})
		wantHeaderFault(t, mark, 0, impl.ReadKind)
		wantHeaderFault(t, mark, 20, impl.ReadKind)
		for _, c := range headersAsTold() {
			wantHeaderFault(t, mark+c.s[1:], shortOf(c.h), impl.ReadKind)
		}
	}
}

// In the first byte of a short packet, and of one of versions, two bits are always 0.
func TestBitsAboveBits(t *testing.T) {
	for i := 1; i < 4; i++ {
		for bits := range 16 {
			short := string([]byte{byte(64 + 16*i + bits)})
			wantHeaderFault(t, short+"dddddddd", 8, impl.ReadForm)
			wantHeaderFault(t, short, 8, impl.ReadForm)
			versions := string([]byte{byte(192 + 16*i + bits)})
			wantHeaderFault(t, versions+"\x00\x00\x00\x00\x00\x00\x00\x00\x00\x01", 8, impl.ReadForm)
			wantHeaderFault(t, versions+"\x00\x00\x00\x00", 8, impl.ReadForm)
			wantHeaderFault(t, versions+"\x00\x00\x00", 8, impl.ReadShort)
		}
	}
}

func TestReadLengthsBeyondTheEdges(t *testing.T) {
	id, over := letters(impl.MaxId), letters(impl.MaxId+1)
	start := "\xc0\x00\x00\x00\x01"
	ids := "\x01d\x01s"
	for _, mark := range []string{"\xc0\x00\x00\x00\x01", "\xd0\x00\x00\x00\x01", "\xe0\x00\x00\x00\x01", "\xf0\x00\x00\x00\x01", "\xc0\x00\x00\x00\x00"} {
		wantHeaderFault(t, mark+"\x15"+over+"\x00\x00\x00\x00\x01", 8, impl.ReadForm)
		wantHeaderFault(t, mark+"\x14"+id+"\x15"+over+"\x00\x00\x00\x01", 8, impl.ReadForm)
		wantHeaderFault(t, mark+"\xff"+letters(600), 8, impl.ReadForm)
	}
	wantHeaderFault(t, start+ids+varint(impl.MaxData+1, 2)+letters(impl.MaxData+1)+"\x40\x01p", 8, impl.ReadForm)
	for _, size := range []int{2, 4, 8} {
		wantHeaderFault(t, start+ids+"\x00"+varint(mostPacket+1, size)+letters(mostPacket+1), 8, impl.ReadForm)
		wantHeaderFault(t, start+ids+"\x00"+varint(0, size)+"p", 8, impl.ReadForm)
		wantHeaderFault(t, "\xd0"+start[1:]+ids+varint(mostPacket+1, size)+letters(mostPacket+1), 8, impl.ReadForm)
		wantHeaderFault(t, "\xe0"+start[1:]+ids+varint(0, size)+"p", 8, impl.ReadForm)
	}
	wantHeaderFault(t, "\xf0"+start[1:]+ids+letters(mostPacket+1), 8, impl.ReadForm)
	wantHeaderFault(t, "\x40"+letters(8+mostPacket+1), 8, impl.ReadForm)
	wantHeaderFault(t, "\x40"+letters(mostPacket+1), 0, impl.ReadForm)
	wantHeaderFault(t, "\xc0\x00\x00\x00\x00"+ids+strings.Repeat("\x00\x00\x00\x01", 21), 8, impl.ReadForm)
	wantHeaderFault(t, "\xc0\x00\x00\x00\x00"+ids+strings.Repeat("\x00\x00\x00\x01", 20)+"\x00", 8, impl.ReadForm)
	wantHeaderFault(t, "\xc0\x00\x00\x00\x00"+ids+strings.Repeat("\x00\x00\x00\x01", 19)+"\x00", 8, impl.ReadShort)
}

// Behind each of these bytes lack too; the fault that stands ahead of that counts.
func TestTheFirstFaultOfAHeaderCounts(t *testing.T) {
	ids := "\x00\x00\x00\x01\x01d\x01s"
	for _, s := range []string{
		"\x70",
		"\xd0\x00\x00\x00\x00",
		"\xc0\x00\x00\x00\x01\x15",
		"\xc0\x00\x00\x00\x01\x01d\x15",
		"\xc0\x00\x00\x00\x00\x15",
		"\xf0\x00\x00\x00\x01\x00\x15",
		"\xc0" + ids + varint(impl.MaxData+1, 2),
		"\xc0" + ids + varint(impl.MaxVarint, 8),
		"\xc0" + ids + "\x00" + varint(mostPacket+1, 2),
		"\xc0" + ids + "\x00\x00",
		"\xe0" + ids + varint(impl.MaxVarint, 8),
		"\xd0" + ids + "\x00",
	} {
		wantHeaderFault(t, s, 8, impl.ReadForm)
	}
	for _, s := range []string{
		"",
		"\x4f",
		"\xc0\x00\x00\x00\x01\x14",
		"\xc0\x00\x00\x00\x01\x02d\x15",
		"\xc0" + ids + varint(impl.MaxData, 2),
		"\xc0" + ids + "\x02\x40",
		"\xc0" + ids + "\x00" + varint(mostPacket, 2),
		"\xc0" + ids + "\x00" + varint(mostPacket, 2) + letters(mostPacket-1),
		"\xc0" + ids + "\x00\xc0\x00\x00\x00\x00\x00\x00",
		"\xf0" + ids,
		"\xc0\x00\x00\x00\x00\x01d\x01s",
	} {
		wantHeaderFault(t, s, 8, impl.ReadShort)
	}
}

func TestShortOutsideItsRange(t *testing.T) {
	for _, short := range []int{-1, impl.MaxId + 1, minInt, maxInt} {
		for _, c := range headersAsTold() {
			wantHeaderFault(t, c.s, short, impl.ReadForm)
			if l, ok := impl.CutDatagram(c.s, short); len(l) != 0 || ok {
				t.Errorf("%s, %d: %q %v", c.name, short, l, ok)
			}
			if id, long, ok := impl.DestOf(c.s, short); id != "" || long || ok {
				t.Errorf("%s, %d: %q %v %v", c.name, short, id, long, ok)
			}
		}
		s := "\x40" + letters(40)
		wantHeaderFault(t, s, short, impl.ReadForm)
		wantHeaderFault(t, "", short, impl.ReadForm)
		if id, long, ok := impl.DestOf(s, short); id != "" || long || ok {
			t.Errorf("%d: %q %v %v", short, id, long, ok)
		}
		if l, ok := impl.CutDatagram("", short); len(l) != 0 || ok {
			t.Errorf("%d: %q %v", short, l, ok)
		}
	}
}
