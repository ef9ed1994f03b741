package tests

import (
	"strings"
	"testing"

	"loop.example/g00206/impl"
)

// wantWithin looks for nothing of an inflow beyond what it allows.
func wantWithin(t *testing.T, s impl.Inflow, read string) {
	t.Helper()
	if !impl.GoodInflow(s) || s.Read != len(read) || s.Read > s.Limit {
		t.Fatalf("%+v, of which %d bytes are read", s, len(read))
	}
	for _, x := range s.Pieces {
		if x.At < s.Read || x.At+len(x.Data) > s.Limit || s.Final >= 0 && x.At+len(x.Data) > s.Final {
			t.Fatalf("%+v: %+v lies beyond", s, x)
		}
	}
}

// Promise 14: whatever order pieces come in, what is read is a beginning of what was sent; nothing goes beyond a limit.
// Pieces are cut anew each time, come late, twice or not at all; limits are raised on the way.
func TestWhatIsReadIsABeginningOfWhatWasSent(t *testing.T) {
	var s steps
	var ended, above, many, read int
	for range 250 {
		sent := s.text(s.below(300))
		a, _ := impl.NewInflow(s.below(len(sent) + 20))
		var told strings.Builder
		for range 400 {
			switch s.below(12) {
			case 0:
				a, _ = impl.RaiseLimit(a, a.Limit+s.below(20))
			case 1, 2, 3:
				b, text, ok := impl.ReadSome(a, s.below(40))
				if !ok || b.Read != a.Read+len(text) {
					t.Fatalf("%+v: %+v %q %v", a, b, text, ok)
				}
				told.WriteString(text)
				a = b
			default:
				at := s.below(len(sent) + 1)
				end := min(at+s.below(25), len(sent))
				b, code := impl.TakePiece(a, at, sent[at:end], end == len(sent))
				if code == impl.StreamLimit != (end > a.Limit) || code != impl.StreamOk && code != impl.StreamLimit && code != impl.StreamPieces {
					t.Fatalf("%+v takes %d to %d: %d", a, at, end, code)
				}
				if code == impl.StreamLimit {
					above++
				}
				if code == impl.StreamPieces {
					many++
				}
				if code != impl.StreamOk && !sameInflow(a, b) {
					t.Fatalf("%+v became %+v with %d", a, b, code)
				}
				a = b
			}
			wantWithin(t, a, told.String())
			if !strings.HasPrefix(sent, told.String()) {
				t.Fatalf("%q is no beginning of %q", told.String(), sent)
			}
			if done, _ := impl.IsDone(a); done != (a.Final == len(sent) && told.Len() == len(sent)) {
				t.Fatalf("%+v: done %v, of %d bytes", a, done, len(sent))
			}
		}
		if done, _ := impl.IsDone(a); done {
			ended++
		}
		read += told.Len()
	}
	if ended < 100 || ended > 249 || above < 1000 || read < 10000 {
		t.Error(ended, above, many, read)
	}
}

// Every order of five pieces, with each reading on the way.
func TestEveryOrderOfPieces(t *testing.T) {
	const sent = "abcdefghij"
	for _, cuts := range [][]int{{2, 4, 6, 8}, {1, 2, 3, 9}, {0, 3, 4, 10}} {
		for _, order := range orders(5) {
			wantStream(t, sent, 10, cuts, order, sent, true)
			for n := range 5 {
				text, done := playTold(sent, 10, cuts, order[:n])
				wantStream(t, sent, 10, cuts, order[:n], text, done)
			}
		}
	}
}

// What comes later takes nothing away of what was read, whatever it is.
func TestStreamsOfBeginnings(t *testing.T) {
	var s steps
	for range 300 {
		data := s.text(s.below(80))
		cuts := s.someCuts(len(data))
		order := s.someOrder(len(cuts) + 1)
		limit := s.below(len(data) + 5)
		before := ""
		for n := range order {
			text, done, ok := impl.PlayStream(data, limit, cuts, order[:n])
			if !ok {
				break
			}
			if !strings.HasPrefix(text, before) || !strings.HasPrefix(data, text) || len(text) > limit || done && text != data {
				t.Fatalf("%x within %d, cut at %v, in the order %v: %x behind %x", data, limit, cuts, order[:n], text, before)
			}
			before = text
		}
	}
}

// crossing is a stream on its way from an outflow to an inflow.
type crossing struct {
	out        impl.Outflow
	in         impl.Inflow
	onTheirWay []impl.Frame
	told       string
	waited     int
}

// send puts the next frame on its way; where there is none the limit is raised, at both ends.
func (c *crossing) send(t *testing.T, s *steps) {
	t.Helper()
	if n := len(c.onTheirWay); n > 0 && c.onTheirWay[n-1].Fin {
		return
	}
	next, f, ok := impl.NextPiece(c.out, 1+s.below(90))
	if !ok {
		c.waited++
		c.in, _ = impl.RaiseLimit(c.in, min(c.in.Limit+s.below(80), mostBuffer))
		c.out.Limit = c.in.Limit
		return
	}
	if f.B+len(f.Data) > c.out.Limit || f.A != 0 || f.Fin != (f.B+len(f.Data) == len(c.out.Data)) {
		t.Fatalf("%+v within %d of %d", f, c.out.Limit, len(c.out.Data))
	}
	c.onTheirWay = append(c.onTheirWay, f)
	c.out = next
}

// receive takes some frame, that may have come before, and reads what it can.
func (c *crossing) receive(t *testing.T, s *steps) {
	t.Helper()
	if len(c.onTheirWay) > 0 {
		bytes, ok := impl.FrameBytes(c.onTheirWay[s.below(len(c.onTheirWay))])
		f, _, code := impl.ReadFrame(bytes)
		if !ok || code != impl.ReadOk {
			t.Fatalf("%q %v %d", bytes, ok, code)
		}
		c.in, code = impl.TakePiece(c.in, f.B, f.Data, f.Fin)
		if code != impl.StreamOk && code != impl.StreamPieces {
			t.Fatalf("%+v takes %+v: %d", c.in, f, code)
		}
	}
	in, text, _ := impl.ReadSome(c.in, s.below(90))
	c.in = in
	c.told += text
	wantWithin(t, c.in, c.told)
}

// What an outflow tells, as frames in bytes that come in any order, is what an inflow reads in the end.
func TestFromAnOutflowToAnInflow(t *testing.T) {
	var s steps
	frames, waited := 0, 0
	for range 150 {
		data := s.text(s.below(900))
		c := crossing{out: outflow(s.below(60), 0, data, true)}
		c.in, _ = impl.NewInflow(c.out.Limit)
		done := false
		for rounds := 0; !done && rounds < 9000; rounds++ {
			c.send(t, &s)
			c.receive(t, &s)
			done, _ = impl.IsDone(c.in)
		}
		if c.told != data || !done {
			t.Fatalf("%x %v, not %x", c.told, done, data)
		}
		frames, waited = frames+len(c.onTheirWay), waited+c.waited
	}
	if frames < 1000 || waited < 300 {
		t.Error(frames, waited)
	}
}
