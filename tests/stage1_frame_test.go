package tests

import (
	"testing"

	"loop.example/g00206/impl"
)

type frameCase struct {
	name string
	f    impl.Frame
	s    string
}

// framesAsTold has each kind of frame with its bytes, written by hand.
func framesAsTold() []frameCase {
	id20 := letters(20)
	return []frameCase{
		{"padding", impl.Frame{Kind: impl.FramePadding}, "\x00"},
		{"ping", impl.Frame{Kind: impl.FramePing}, "\x01"},
		{"ack of one number", impl.Frame{Kind: impl.FrameAck, Ranges: []impl.Range{{From: 0, To: 0}}}, "\x02\x00\x00\x00\x00"},
		{"ack of one range", impl.Frame{Kind: impl.FrameAck, A: 100, Ranges: []impl.Range{{From: 3, To: 70}}}, "\x02\x40\x46\x40\x64\x00\x40\x43"},
		{"ack of ranges as near as can be", impl.Frame{Kind: impl.FrameAck, A: 1, Ranges: []impl.Range{{From: 9, To: 9}, {From: 6, To: 7}, {From: 0, To: 2}}}, "\x02\x09\x01\x02\x00\x00\x01\x02\x02"},
		{"reset", impl.Frame{Kind: impl.FrameReset, A: 1, B: 64, C: 3}, "\x04\x01\x40\x40\x03"},
		{"stop", impl.Frame{Kind: impl.FrameStop, A: 4, B: 5}, "\x05\x04\x05"},
		{"crypto", impl.Frame{Kind: impl.FrameCrypto, A: 6, Data: "xyz"}, "\x06\x06\x03xyz"},
		{"crypto without data", impl.Frame{Kind: impl.FrameCrypto}, "\x06\x00\x00"},
		{"token", impl.Frame{Kind: impl.FrameToken, Data: "t"}, "\x07\x01t"},
		{"stream", impl.Frame{Kind: impl.FrameStream, A: 4, Data: "hi"}, "\x0a\x04\x02hi"},
		{"stream with fin", impl.Frame{Kind: impl.FrameStream, A: 4, Data: "hi", Fin: true}, "\x0b\x04\x02hi"},
		{"stream with an offset", impl.Frame{Kind: impl.FrameStream, A: 4, B: 9, Data: "hi"}, "\x0e\x04\x09\x02hi"},
		{"stream with both", impl.Frame{Kind: impl.FrameStream, A: 0, B: 1, Data: "", Fin: true}, "\x0f\x00\x01\x00"},
		{"max data", impl.Frame{Kind: impl.FrameMaxData, A: 16384}, "\x10\x80\x00\x40\x00"},
		{"max stream", impl.Frame{Kind: impl.FrameMaxStream, A: 8, B: 63}, "\x11\x08\x3f"},
		{"new id", impl.Frame{Kind: impl.FrameNewId, A: 3, B: 2, C: 255, Data: "i"}, "\x18\x03\x02\x01i\xff"},
		{"new id of 20 bytes", impl.Frame{Kind: impl.FrameNewId, A: 3, B: 3, C: 0, Data: id20}, "\x18\x03\x03\x14" + id20 + "\x00"},
		{"challenge", impl.Frame{Kind: impl.FrameChallenge, Data: "12345678"}, "\x1a12345678"},
		{"response", impl.Frame{Kind: impl.FrameResponse, Data: "\x00\xff345678"}, "\x1b\x00\xff345678"},
		{"close", impl.Frame{Kind: impl.FrameClose, A: 1, B: 2, Data: "why"}, "\x1c\x01\x02\x03why"},
		{"close without data", impl.Frame{Kind: impl.FrameClose}, "\x1c\x00\x00\x00"},
		{"datagram", impl.Frame{Kind: impl.FrameDatagram, Data: "dg"}, "\x31\x02dg"},
		{"datagram without data", impl.Frame{Kind: impl.FrameDatagram}, "\x31\x00"},
	}
}

func TestEachFrameAndItsBytes(t *testing.T) {
	for _, c := range framesAsTold() {
		if !impl.GoodFrame(c.f) {
			t.Errorf("%s: not good", c.name)
		}
		if s, ok := impl.FrameBytes(c.f); s != c.s || !ok {
			t.Errorf("%s: bytes %x %v, not %x", c.name, s, ok, c.s)
		}
		if f, size, code := impl.ReadFrame(c.s); !sameFrame(f, c.f) || size != len(c.s) || code != impl.ReadOk {
			t.Errorf("%s: read %+v %d %d", c.name, f, size, code)
		}
		if f, size, code := impl.ReadFrame(c.s + "\x03\xff"); !sameFrame(f, c.f) || size != len(c.s) || code != impl.ReadOk {
			t.Errorf("%s: read with bytes behind %+v %d %d", c.name, f, size, code)
		}
	}
}

func TestFramesOneBehindTheOther(t *testing.T) {
	var l []impl.Frame
	want := ""
	for _, c := range framesAsTold() {
		l = append(l, c.f)
		want += c.s
	}
	if s, ok := impl.FramesBytes(l); s != want || !ok {
		t.Errorf("%x %v", s, ok)
	}
	if back, code := impl.ReadFrames(want); !sameFrames(back, l) || code != impl.ReadOk {
		t.Error(back, code)
	}
	if s, ok := impl.FramesBytes(nil); s != "" || !ok {
		t.Errorf("%x %v", s, ok)
	}
	if back, code := impl.ReadFrames(""); len(back) != 0 || code != impl.ReadOk {
		t.Error(back, code)
	}
}

// manyRanges are so many single numbers, two apart, the last one 0.
func manyRanges(n int) []impl.Range {
	var l []impl.Range
	for i := n - 1; i >= 0; i-- {
		l = append(l, impl.Range{From: 2 * i, To: 2 * i})
	}
	return l
}

func TestGoodFramesAtTheEdges(t *testing.T) {
	most := impl.MaxVarint
	full := letters(impl.MaxData)
	for i, f := range []impl.Frame{
		{Kind: impl.FrameMaxData},
		{Kind: impl.FrameMaxData, A: most},
		{Kind: impl.FrameMaxStream, A: most, B: most},
		{Kind: impl.FrameStop, A: most, B: most},
		{Kind: impl.FrameReset, A: most, B: most, C: most},
		{Kind: impl.FrameClose, A: most, B: most, Data: full},
		{Kind: impl.FrameAck, A: most, Ranges: []impl.Range{{From: 0, To: most}}},
		{Kind: impl.FrameAck, Ranges: []impl.Range{{From: most, To: most}, {From: 0, To: most - 2}}},
		{Kind: impl.FrameAck, Ranges: []impl.Range{{From: 2, To: 2}, {From: 0, To: 0}}},
		{Kind: impl.FrameAck, Ranges: manyRanges(20)},
		{Kind: impl.FrameCrypto, A: most},
		{Kind: impl.FrameCrypto, A: most - impl.MaxData, Data: full},
		{Kind: impl.FrameToken, Data: full},
		{Kind: impl.FrameStream, A: most, B: most, Fin: true},
		{Kind: impl.FrameStream, A: most, B: most - impl.MaxData, Data: full},
		{Kind: impl.FrameStream, Data: full},
		{Kind: impl.FrameNewId, A: most, B: most, C: 255, Data: "i"},
		{Kind: impl.FrameNewId, Data: letters(20)},
		{Kind: impl.FrameDatagram, Data: full},
	} {
		s, ok := impl.FrameBytes(f)
		if !ok || !impl.GoodFrame(f) {
			t.Errorf("%d: not good", i)
		}
		if back, size, code := impl.ReadFrame(s); !sameFrame(back, f) || size != len(s) || code != impl.ReadOk {
			t.Errorf("%d: %+v %d %d", i, back, size, code)
		}
	}
}

func TestFramesBeyondTheEdges(t *testing.T) {
	most := impl.MaxVarint
	over := letters(impl.MaxData + 1)
	ack := func(l ...impl.Range) impl.Frame { return impl.Frame{Kind: impl.FrameAck, Ranges: l} }
	for i, f := range []impl.Frame{
		{Kind: impl.FrameMaxData, A: -1},
		{Kind: impl.FrameMaxData, A: most + 1},
		{Kind: impl.FrameMaxStream, B: -1},
		{Kind: impl.FrameMaxStream, B: most + 1},
		{Kind: impl.FrameStop, A: minInt},
		{Kind: impl.FrameStop, B: maxInt},
		{Kind: impl.FrameReset, C: -1},
		{Kind: impl.FrameReset, C: most + 1},
		{Kind: impl.FrameClose, A: -1},
		{Kind: impl.FrameClose, B: most + 1},
		{Kind: impl.FrameClose, Data: over},
		{Kind: impl.FrameAck},
		{Kind: impl.FrameAck, A: -1, Ranges: manyRanges(1)},
		{Kind: impl.FrameAck, A: most + 1, Ranges: manyRanges(1)},
		{Kind: impl.FrameAck, Ranges: manyRanges(21)},
		ack(impl.Range{From: 1, To: 0}),
		ack(impl.Range{From: -1, To: 0}),
		ack(impl.Range{From: 0, To: most + 1}),
		ack(impl.Range{From: minInt, To: maxInt}),
		ack(impl.Range{From: 5, To: 5}, impl.Range{From: 4, To: 4}),
		ack(impl.Range{From: 5, To: 5}, impl.Range{From: 5, To: 5}),
		ack(impl.Range{From: 1, To: 2}, impl.Range{From: 8, To: 9}),
		ack(impl.Range{From: 5, To: 5}, impl.Range{From: -1, To: 3}),
		ack(impl.Range{From: 5, To: 5}, impl.Range{From: 3, To: 2}),
		ack(impl.Range{From: 9, To: 9}, impl.Range{From: 5, To: 5}, impl.Range{From: 4, To: 4}),
		{Kind: impl.FrameCrypto, A: -1},
		{Kind: impl.FrameCrypto, A: most + 1},
		{Kind: impl.FrameCrypto, A: most, Data: "x"},
		{Kind: impl.FrameCrypto, A: most - impl.MaxData + 1, Data: over[1:]},
		{Kind: impl.FrameCrypto, Data: over},
		{Kind: impl.FrameToken},
		{Kind: impl.FrameToken, Data: over},
		{Kind: impl.FrameStream, A: -1},
		{Kind: impl.FrameStream, A: most + 1},
		{Kind: impl.FrameStream, B: -1},
		{Kind: impl.FrameStream, B: most, Data: "x"},
		{Kind: impl.FrameStream, B: most - impl.MaxData + 1, Data: over[1:]},
		{Kind: impl.FrameStream, Data: over},
		{Kind: impl.FrameNewId, A: 1, Data: ""},
		{Kind: impl.FrameNewId, A: 1, Data: letters(21)},
		{Kind: impl.FrameNewId, A: 1, B: 2, Data: "i"},
		{Kind: impl.FrameNewId, A: 1, C: 256, Data: "i"},
		{Kind: impl.FrameNewId, A: 1, C: -1, Data: "i"},
		{Kind: impl.FrameNewId, A: -1, B: -1, Data: "i"},
		{Kind: impl.FrameChallenge, Data: "1234567"},
		{Kind: impl.FrameChallenge, Data: "123456789"},
		{Kind: impl.FrameChallenge},
		{Kind: impl.FrameResponse, Data: "1234567"},
		{Kind: impl.FrameResponse, Data: "123456789"},
		{Kind: impl.FrameDatagram, Data: over},
	} {
		refuseFrame(t, i, f)
	}
}

func refuseFrame(t *testing.T, i int, f impl.Frame) {
	t.Helper()
	if impl.GoodFrame(f) {
		t.Errorf("%d: good: %+v", i, f)
	}
	if s, ok := impl.FrameBytes(f); s != "" || ok {
		t.Errorf("%d: %x %v", i, s, ok)
	}
	ping := impl.Frame{Kind: impl.FramePing}
	if s, ok := impl.FramesBytes([]impl.Frame{ping, f, ping}); s != "" || ok {
		t.Errorf("%d: within a list: %x %v", i, s, ok)
	}
}

func TestUnknownKindsAreNotGood(t *testing.T) {
	known := map[int]int{}
	for _, c := range framesAsTold() {
		known[c.f.Kind]++
	}
	if len(known) != 15 {
		t.Fatal(len(known))
	}
	for kind := -3; kind < 80; kind++ {
		if known[kind] == 0 {
			for _, data := range []string{"", "x", "12345678"} {
				refuseFrame(t, kind, impl.Frame{Kind: kind, Data: data})
			}
		}
	}
	refuseFrame(t, -100, impl.Frame{Kind: minInt})
	refuseFrame(t, 100, impl.Frame{Kind: maxInt})
}

func TestFieldsThatAKindDoesNotName(t *testing.T) {
	fields := map[int]string{
		impl.FramePadding: "", impl.FramePing: "", impl.FrameAck: "AR", impl.FrameReset: "ABC",
		impl.FrameStop: "AB", impl.FrameCrypto: "AD", impl.FrameToken: "D", impl.FrameStream: "ABFD",
		impl.FrameMaxData: "A", impl.FrameMaxStream: "AB", impl.FrameNewId: "ABCD",
		impl.FrameChallenge: "D", impl.FrameResponse: "D", impl.FrameClose: "ABD", impl.FrameDatagram: "D",
	}
	for i, c := range framesAsTold() {
		named := map[rune]int{}
		for _, r := range fields[c.f.Kind] {
			named[r]++
		}
		for _, r := range "ABCFDR" {
			if named[r] > 0 {
				continue
			}
			f := c.f
			switch r {
			case 'A':
				f.A = 1
			case 'B':
				f.B = 1
			case 'C':
				f.C = 1
			case 'F':
				f.Fin = true
			case 'D':
				f.Data = "x"
			case 'R':
				f.Ranges = []impl.Range{{From: 1, To: 1}}
			}
			refuseFrame(t, i, f)
		}
	}
}

func TestEmptyRangesAreNone(t *testing.T) {
	f := impl.Frame{Kind: impl.FramePing, Ranges: []impl.Range{}}
	if s, ok := impl.FrameBytes(f); s != "\x01" || !ok || !impl.GoodFrame(f) {
		t.Errorf("%x %v", s, ok)
	}
	refuseFrame(t, 0, impl.Frame{Kind: impl.FrameAck, Ranges: []impl.Range{}})
}

func TestListsOfFramesAtTheirLimits(t *testing.T) {
	l := make([]impl.Frame, impl.MaxFrames)
	for i := range l {
		l[i].Kind = i % 2
	}
	s, ok := impl.FramesBytes(l)
	if len(s) != impl.MaxFrames || !ok {
		t.Error(len(s), ok)
	}
	if back, code := impl.ReadFrames(s); !sameFrames(back, l) || code != impl.ReadOk {
		t.Error(len(back), code)
	}
	if s, ok := impl.FramesBytes(append(l, impl.Frame{})); s != "" || ok {
		t.Error(len(s), ok)
	}
	if back, code := impl.ReadFrames(s + "\x00"); len(back) != 0 || code != impl.ReadMany {
		t.Error(len(back), code)
	}
}

// filled are datagrams that have so many bytes together.
func filled(bytes int) []impl.Frame {
	var l []impl.Frame
	for bytes > 203 {
		l = append(l, impl.Frame{Kind: impl.FrameDatagram, Data: letters(197)})
		bytes -= 200
	}
	return append(l, impl.Frame{Kind: impl.FrameDatagram, Data: letters(bytes - 3)})
}

func TestPayloadAtItsLimit(t *testing.T) {
	l := filled(impl.MaxPayload)
	s, ok := impl.FramesBytes(l)
	if len(s) != impl.MaxPayload || !ok {
		t.Error(len(s), ok)
	}
	if back, code := impl.ReadFrames(s); !sameFrames(back, l) || code != impl.ReadOk {
		t.Error(len(back), code)
	}
	if s, ok := impl.FramesBytes(filled(impl.MaxPayload + 1)); s != "" || ok {
		t.Error(len(s), ok)
	}
	if back, code := impl.ReadFrames(s + "\x00"); len(back) != 0 || code != impl.ReadMany {
		t.Error(len(back), code)
	}
}
