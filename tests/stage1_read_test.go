package tests

import (
	"strings"
	"testing"

	"loop.example/g00206/impl"
)

func wantRead(t *testing.T, s string, want impl.Frame, wantSize int) {
	t.Helper()
	f, size, code := impl.ReadFrame(s)
	if !sameFrame(f, want) || size != wantSize || code != impl.ReadOk {
		t.Errorf("%x: %+v %d %d, not %+v %d", s, f, size, code, want, wantSize)
	}
	if !impl.GoodFrame(f) {
		t.Errorf("%x: %+v is not good", s, f)
	}
}

func wantFault(t *testing.T, s string, want int) {
	t.Helper()
	f, size, code := impl.ReadFrame(s)
	if !sameFrame(f, impl.Frame{}) || size != 0 || code != want {
		t.Errorf("%x: %+v %d %d, not the fault %d", s, f, size, code, want)
	}
}

func TestReadLongVarints(t *testing.T) {
	for _, c := range []struct {
		f impl.Frame
		s string
	}{
		{impl.Frame{Kind: impl.FramePadding}, wide(0)},
		{impl.Frame{Kind: impl.FramePing}, varint(1, 2)},
		{impl.Frame{Kind: impl.FramePing}, varint(1, 4)},
		{impl.Frame{Kind: impl.FrameAck, A: 1, Ranges: []impl.Range{{From: 5, To: 7}, {From: 0, To: 2}}}, wide(2, 7, 1, 1, 2, 1, 2)},
		{impl.Frame{Kind: impl.FrameReset, A: 1, B: 2, C: 3}, wide(4, 1, 2, 3)},
		{impl.Frame{Kind: impl.FrameStop, A: 1, B: 2}, wide(5, 1, 2)},
		{impl.Frame{Kind: impl.FrameCrypto, A: 1, Data: "ab"}, wide(6, 1, 2) + "ab"},
		{impl.Frame{Kind: impl.FrameToken, Data: "ab"}, wide(7, 2) + "ab"},
		{impl.Frame{Kind: impl.FrameStream, A: 1, B: 2, Fin: true, Data: "ab"}, wide(15, 1, 2, 2) + "ab"},
		{impl.Frame{Kind: impl.FrameMaxData, A: 1}, wide(16, 1)},
		{impl.Frame{Kind: impl.FrameMaxStream, A: 1, B: 2}, wide(17, 1, 2)},
		{impl.Frame{Kind: impl.FrameNewId, A: 2, B: 1, C: 7, Data: "ab"}, wide(24, 2, 1) + "\x02ab\x07"},
		{impl.Frame{Kind: impl.FrameChallenge, Data: "12345678"}, wide(26) + "12345678"},
		{impl.Frame{Kind: impl.FrameResponse, Data: "12345678"}, wide(27) + "12345678"},
		{impl.Frame{Kind: impl.FrameClose, A: 1, B: 2, Data: "ab"}, wide(28, 1, 2, 2) + "ab"},
		{impl.Frame{Kind: impl.FrameDatagram, Data: "ab"}, wide(49, 2) + "ab"},
		{impl.Frame{Kind: impl.FrameDatagram, Data: "ab"}, wide(48) + "ab"},
	} {
		wantRead(t, c.s, c.f, len(c.s))
	}
}

func TestKindOfAStream(t *testing.T) {
	stream := func(b int, fin bool, data string) impl.Frame {
		return impl.Frame{Kind: impl.FrameStream, A: 4, B: b, Fin: fin, Data: data}
	}
	wantRead(t, "\x08\x04\x02hi", stream(0, false, "\x02hi"), 5)
	wantRead(t, "\x09\x04\x02hi", stream(0, true, "\x02hi"), 5)
	wantRead(t, "\x0a\x04\x02hi+", stream(0, false, "hi"), 5)
	wantRead(t, "\x0b\x04\x02hi+", stream(0, true, "hi"), 5)
	wantRead(t, "\x0c\x04\x02hi", stream(2, false, "hi"), 5)
	wantRead(t, "\x0d\x04\x02hi", stream(2, true, "hi"), 5)
	wantRead(t, "\x0e\x04\x09\x02hi+", stream(9, false, "hi"), 6)
	wantRead(t, "\x0f\x04\x09\x02hi+", stream(9, true, "hi"), 6)
	wantRead(t, "\x08\x04", stream(0, false, ""), 2)
	wantRead(t, "\x0d\x04\x05", stream(5, true, ""), 3)
	wantRead(t, "\x0c\x04\x00hi", stream(0, false, "hi"), 5)
	wantRead(t, "\x0f\x04\x00\x02hi", stream(0, true, "hi"), 6)
	if s, ok := impl.FrameBytes(stream(0, true, "hi")); s != "\x0b\x04\x02hi" || !ok {
		t.Errorf("%x %v", s, ok)
	}
}

func TestDataUpToTheEnd(t *testing.T) {
	full := letters(impl.MaxData)
	wantRead(t, "\x30", impl.Frame{Kind: impl.FrameDatagram}, 1)
	wantRead(t, "\x30\x02ab", impl.Frame{Kind: impl.FrameDatagram, Data: "\x02ab"}, 4)
	wantRead(t, "\x30"+full, impl.Frame{Kind: impl.FrameDatagram, Data: full}, 201)
	wantFault(t, "\x30"+full+"+", impl.ReadForm)
	wantRead(t, "\x08\x04"+full, impl.Frame{Kind: impl.FrameStream, A: 4, Data: full}, 202)
	wantFault(t, "\x08\x04"+full+"+", impl.ReadForm)
	last := "\x0c\x04" + varint(impl.MaxVarint-1, 8)
	wantRead(t, last+"x", impl.Frame{Kind: impl.FrameStream, A: 4, B: impl.MaxVarint - 1, Data: "x"}, 11)
	wantFault(t, last+"xy", impl.ReadForm)
	l, code := impl.ReadFrames("\x01\x30ab\x01")
	if want := []impl.Frame{{Kind: 1}, {Kind: 48, Data: "ab\x01"}}; !sameFrames(l, want) || code != impl.ReadOk {
		t.Error(l, code)
	}
	l, code = impl.ReadFrames("\x00\x0d\x04\x07ab\x01")
	if want := []impl.Frame{{}, {Kind: 8, A: 4, B: 7, Fin: true, Data: "ab\x01"}}; !sameFrames(l, want) || code != impl.ReadOk {
		t.Error(l, code)
	}
}

func TestReadCutOffFrames(t *testing.T) {
	wantFault(t, "", impl.ReadShort)
	for _, c := range framesAsTold() {
		for i := range len(c.s) {
			wantFault(t, c.s[:i], impl.ReadShort)
		}
	}
	for _, s := range []string{"\x40", "\x80\x00\x00", "\xc0\x00\x00\x00\x00\x00\x00"} {
		wantFault(t, s, impl.ReadShort)
	}
	wantFault(t, "\x08", impl.ReadShort)
	wantFault(t, "\x0c\x04", impl.ReadShort)
	wantFault(t, "\x31"+varint(impl.MaxData, 2)+letters(impl.MaxData-1), impl.ReadShort)
}

func TestReadUnknownKinds(t *testing.T) {
	known := map[int]int{49: 1}
	for _, c := range framesAsTold() {
		known[c.f.Kind]++
	}
	for kind := 8; kind < 16; kind++ {
		known[kind]++
	}
	for kind := range 300 {
		if known[kind] > 0 {
			continue
		}
		wantFault(t, wide(kind), impl.ReadKind)
		wantFault(t, wide(kind)+letters(40), impl.ReadKind)
	}
	wantFault(t, "\x03\x00\x00\x00\x00\x00", impl.ReadKind)
	wantFault(t, wide(impl.MaxVarint), impl.ReadKind)
}

func TestReadWhatIsNoGoodFrame(t *testing.T) {
	over := letters(impl.MaxData + 1)
	told := varint(len(over), 2) + over
	for _, s := range []string{
		"\x02\x04\x00\x00\x05",                          // the first range begins below 0
		"\x02\x04\x00\x01\x00\x03\x00",                  // the second one ends below 0
		"\x02\x04\x00\x01\x00\x02\x01",                  // the second one begins below 0
		"\x02\x04\x00\x01\x03\x00\x00",                  // no room ahead of the first one
		"\x02\x3f\x00\x14" + strings.Repeat("\x00", 41), // 21 ranges
		"\x06\x00" + told,
		"\x06" + varint(impl.MaxVarint, 8) + "\x01x",
		"\x07\x00",
		"\x07" + told,
		"\x0a\x04" + told,
		"\x0e\x04" + varint(impl.MaxVarint, 8) + "\x01x",
		"\x18\x03\x04\x01i\x00",
		"\x18\x03\x02\x00\x00",
		"\x18\x03\x02\x15" + letters(21) + "\x00",
		"\x1c\x00\x00" + told,
		"\x31" + told,
	} {
		wantFault(t, s, impl.ReadForm)
	}
	twenty := "\x02\x26\x00\x13" + strings.Repeat("\x00", 39)
	wantRead(t, twenty, impl.Frame{Kind: impl.FrameAck, Ranges: manyRanges(20)}, len(twenty))
}

// Behind each of these beginnings bytes lack too; the fault that stands ahead of that counts.
func TestTheFirstFaultCounts(t *testing.T) {
	for _, s := range []string{
		"\x02\x04\x00\x00\x05",
		"\x02\x3f\x00\x14",
		"\x02\x04\x00" + varint(impl.MaxVarint, 8),
		"\x02\x04\x00\x01\x05",
		"\x02\x04\x00\x02\x00\x03",
		"\x06\x00" + varint(201, 2),
		"\x06" + varint(impl.MaxVarint, 8) + "\x01",
		"\x07\x00",
		"\x07" + varint(impl.MaxVarint, 8),
		"\x0a\x04" + varint(201, 2) + "abc",
		"\x0f\x04" + varint(impl.MaxVarint, 8) + "\x01",
		"\x18\x03\x04",
		"\x18\x03\x02\x00",
		"\x18\x03\x02\x15",
		"\x1c\x00\x00" + varint(201, 2),
		"\x31" + varint(201, 2),
	} {
		wantFault(t, s, impl.ReadForm)
	}
	wantFault(t, "\x06\x00"+varint(200, 2), impl.ReadShort)
	wantFault(t, "\x18\x03\x02\x14", impl.ReadShort)
	wantFault(t, "\x02\x3f\x00\x13", impl.ReadShort)
}

func TestReadFramesTellsTheFirstFault(t *testing.T) {
	for _, c := range []struct {
		s    string
		code int
	}{
		{"\x40", impl.ReadShort},
		{"\x01\x07\x02a", impl.ReadShort},
		{"\x03", impl.ReadKind},
		{"\x01\x01\x03", impl.ReadKind},
		{"\x01\x07\x00\x03", impl.ReadForm},
		{"\x01\x03\x07\x00", impl.ReadKind},
		{"\x01\x03\x1a123", impl.ReadKind},
		{strings.Repeat("\x01", 41), impl.ReadMany},
		{strings.Repeat("\x01", 41) + "\x03", impl.ReadMany},
		{"\x03" + strings.Repeat("\x01", 41), impl.ReadKind},
		{"\x07\x00" + strings.Repeat("\x01", 41), impl.ReadForm},
		{strings.Repeat("\x01", 39) + "\x03", impl.ReadKind},
		{strings.Repeat("\x01", 40) + "\x03", impl.ReadKind},
		{strings.Repeat("\x01", 40) + "\x1a", impl.ReadShort},
		{"\x03" + letters(impl.MaxPayload), impl.ReadMany},
		{strings.Repeat("\x00", impl.MaxPayload), impl.ReadMany},
		{strings.Repeat("\x00", impl.MaxPayload+1), impl.ReadMany},
	} {
		if l, code := impl.ReadFrames(c.s); len(l) != 0 || code != c.code {
			t.Errorf("%x: %v %d, not %d", c.s, l, code, c.code)
		}
	}
}
