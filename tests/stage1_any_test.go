package tests

import (
	"slices"
	"testing"

	"loop.example/g00206/impl"
)

// checkRead holds what is read against what is said of every answer.
func checkRead(t *testing.T, s string) {
	t.Helper()
	f, size, code := impl.ReadFrame(s)
	if code != impl.ReadOk {
		if size != 0 || !sameFrame(f, impl.Frame{}) || code < impl.ReadShort || code > impl.ReadForm {
			t.Fatalf("%x: %+v %d %d", s, f, size, code)
		}
		return
	}
	if size < 1 || size > len(s) || !impl.GoodFrame(f) {
		t.Fatalf("%x: %+v %d", s, f, size)
	}
	if overlaps(f.Data, s) {
		t.Fatalf("%x: Data lies in what was read", s)
	}
	told, ok := impl.FrameBytes(f)
	back, took, code := impl.ReadFrame(told + "\x03")
	if !ok || took != len(told) || code != impl.ReadOk || !sameFrame(back, f) {
		t.Fatalf("%x: %+v came back as %+v", s, f, back)
	}
}

func TestReadAnyBytes(t *testing.T) {
	var s steps
	kinds := []byte{0, 1, 2, 4, 5, 6, 7, 8, 9, 10, 11, 12, 13, 14, 15, 16, 17, 24, 26, 27, 28, 48, 49}
	for range 60000 {
		b := []byte(s.text(1 + s.below(40)))
		b[0] = kinds[s.below(len(kinds))]
		for i := 1; i < len(b) && i < 8; i++ {
			b[i] &= 31
		}
		checkRead(t, string(b))
	}
	for range 20000 {
		text := s.text(s.below(300))
		checkRead(t, text)
		l, code := impl.ReadFrames(text)
		if code < impl.ReadOk || code > impl.ReadMany || code != impl.ReadOk && len(l) != 0 {
			t.Fatalf("%x: %v %d", text, l, code)
		}
	}
}

func (s *steps) number() int {
	return int(uint64(s.below(1<<31))<<31|uint64(s.below(1<<31))) >> (s.below(62))
}

// anyFrame is a frame of a kind that is told; it need not be good.
func (s *steps) anyFrame() impl.Frame {
	all := framesAsTold()
	f := all[s.below(len(all))].f
	f.Ranges = slices.Clone(f.Ranges)
	switch s.below(7) {
	case 0:
		f.A = s.number()
	case 1:
		f.B = s.number()
	case 2:
		f.C = s.below(300) - 20
	case 3:
		f.Fin = !f.Fin
	case 4:
		f.Data = s.text(s.below(220))
	case 5:
		at := s.number()
		f.Ranges = append([]impl.Range{{From: at, To: at + s.below(50) - 5}}, f.Ranges...)
	}
	return f
}

func TestGoodIsWhatComesBack(t *testing.T) {
	var s steps
	good := 0
	for range 60000 {
		f := s.anyFrame()
		b, ok := impl.FrameBytes(f)
		if ok != impl.GoodFrame(f) || ok == (b == "") {
			t.Fatalf("%+v: %x %v", f, b, ok)
		}
		if !ok {
			continue
		}
		good++
		back, size, code := impl.ReadFrame(b)
		if !sameFrame(back, f) || size != len(b) || code != impl.ReadOk {
			t.Fatalf("%+v: %x came back as %+v", f, b, back)
		}
	}
	if good < 10000 {
		t.Error(good)
	}
}

func TestListsComeBack(t *testing.T) {
	var s steps
	for range 3000 {
		var l []impl.Frame
		want := ""
		for n := s.below(12); len(l) < n; {
			f := s.anyFrame()
			if b, ok := impl.FrameBytes(f); ok {
				l = append(l, f)
				want += b
			}
		}
		b, ok := impl.FramesBytes(l)
		if ok != (len(want) <= impl.MaxPayload) || ok && b != want {
			t.Fatalf("%v: %x %v", l, b, ok)
		}
		back, code := impl.ReadFrames(want)
		if ok && (code != impl.ReadOk || !sameFrames(back, l)) {
			t.Fatalf("%v: %v %d", l, back, code)
		}
	}
}

func TestNoArgumentIsChanged(t *testing.T) {
	whole := []impl.Range{{From: 9, To: 12}, {From: 5, To: 7}, {From: 0, To: 2}, {From: 77, To: 78}}
	before := slices.Clone(whole)
	f := impl.Frame{Kind: impl.FrameAck, A: 1, Ranges: whole[:2]}
	list := []impl.Frame{f, {Kind: impl.FramePing}, {Kind: 99, Data: "behind"}}
	impl.GoodFrame(f)
	s, _ := impl.FrameBytes(f)
	impl.FramesBytes(list[:2])
	impl.FramesBytes(list)
	if !slices.Equal(whole, before) {
		t.Error(whole)
	}
	want := []impl.Frame{{Kind: impl.FrameAck, A: 1, Ranges: before[:2]}, {Kind: impl.FramePing}, {Kind: 99, Data: "behind"}}
	if !sameFrames(list, want) {
		t.Error(list)
	}
	// What lies behind the list's length is no part of it.
	if s != "\x02\x0c\x01\x01\x03\x00\x02" {
		t.Errorf("%x", s)
	}
}

func TestAnswersAreNewMemory(t *testing.T) {
	s := "\x02\x07\x01\x01\x02\x01\x02\x06\x00\x03abc" + "\x02\x07\x01\x01\x02\x01\x02"
	one, code := impl.ReadFrames(s)
	two, _ := impl.ReadFrames(s)
	if code != impl.ReadOk || len(one) != 3 || !sameFrames(one, two) {
		t.Fatal(one, two, code)
	}
	if overlaps(one[1].Data, s) {
		t.Error("Data lies in what was read")
	}
	one[0].Ranges[0] = impl.Range{From: 1, To: 1}
	one[0].Ranges = append(one[0].Ranges, impl.Range{From: 2, To: 2})
	if want := []impl.Range{{From: 5, To: 7}, {From: 0, To: 2}}; !slices.Equal(one[2].Ranges, want) || !slices.Equal(two[0].Ranges, want) {
		t.Error(one, two)
	}
	f := impl.Frame{Kind: impl.FrameToken, Data: letters(30)}
	b, _ := impl.FrameBytes(f)
	l, _ := impl.FramesBytes([]impl.Frame{f})
	if overlaps(b, f.Data) || overlaps(l, f.Data) || overlaps(b, l) {
		t.Error("bytes lie in the frame")
	}
}
