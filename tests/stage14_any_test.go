package tests

import (
	"maps"
	"slices"
	"testing"

	"loop.example/g00206/impl"
)

// places are what lies in an inflow told another way: byte by byte, in no order.
type places map[int]byte

func placesOf(l []impl.Piece) places {
	p := places{}
	for _, x := range l {
		for i := range len(x.Data) {
			p[x.At+i] = x.Data[i]
		}
	}
	return p
}

// told are the places as pieces, in order and none of which touch.
func (p places) told() []impl.Piece {
	var l []impl.Piece
	var data []byte
	for _, at := range slices.Sorted(maps.Keys(p)) {
		data = append(data, p[at])
		if _, more := p[at+1]; !more {
			l = append(l, impl.Piece{At: at + 1 - len(data), Data: string(data)})
			data = nil
		}
	}
	return l
}

// inflowTold lays the pieces out and tells them again: only such as are in order, have bytes and don't touch come back.
func inflowTold(s impl.Inflow) bool {
	most := s.Limit
	if s.Final != -1 {
		most = s.Final
	}
	if s.Limit < 0 || s.Limit > mostBuffer || s.Read < 0 || s.Read > most || most < 0 || most > s.Limit || len(s.Pieces) > 40 {
		return false
	}
	for _, x := range s.Pieces {
		if x.At < s.Read || x.At > most || x.At+len(x.Data) > most {
			return false
		}
	}
	return slices.Equal(placesOf(s.Pieces).told(), s.Pieces)
}

// takeTold is what becomes of an inflow, byte by byte.
func takeTold(s impl.Inflow, at int, data string, fin bool) (impl.Inflow, int) {
	if !inflowTold(s) || at < 0 || at > mostVarint || len(data) > 1500 {
		return impl.Inflow{}, 1
	}
	end := at + len(data)
	if s.Limit < end {
		return s, 2
	}
	p := placesOf(s.Pieces)
	if s.Final != -1 && (s.Final < end || fin && s.Final > end) || fin && s.Read > end {
		return s, 3
	}
	for place := range p {
		if fin && place >= end {
			return s, 3
		}
	}
	for i := range len(data) {
		if b, there := p[at+i]; there && b != data[i] {
			return s, 4
		}
		if at+i >= s.Read {
			p[at+i] = data[i]
		}
	}
	want := impl.Inflow{Limit: s.Limit, Read: s.Read, Final: s.Final, Pieces: p.told()}
	if len(want.Pieces) > 40 {
		return s, 5
	}
	if fin {
		want.Final = end
	}
	return want, 0
}

func readTold(s impl.Inflow, most int) (impl.Inflow, string) {
	p := placesOf(s.Pieces)
	var text []byte
	for range most {
		b, there := p[s.Read]
		if !there {
			break
		}
		delete(p, s.Read)
		text = append(text, b)
		s.Read++
	}
	s.Pieces = p.told()
	return s, string(text)
}

// sentText is what all inflows here are sent a part of.
func sentText() string {
	s := steps(14)
	return s.text(mostBuffer)
}

// inflow is a good one, of bytes that were sent.
func (s *steps) inflow(sent string) impl.Inflow {
	a := impl.Inflow{Limit: s.below(120), Final: -1}
	count, size, gap := s.below(41), 1+s.below(9), 1+s.below(9)
	switch s.below(8) {
	case 0:
		a.Limit = s.below(mostBuffer + 1)
	case 1:
		a.Limit = mostBuffer - s.below(3)
	case 2, 3: // as many pieces as there may be, and gaps that more would find room in
		a.Limit = 400 + s.below(90)
		count, size, gap = 40, 1, 7
	}
	a.Read = s.below(a.Limit + 1)
	if s.below(3) > 0 {
		a.Read /= 8
	}
	most := a.Limit
	if s.below(3) == 0 {
		a.Final = a.Read + s.below(a.Limit-a.Read+1)
		most = a.Final
	}
	at := a.Read + s.below(3)
	for range count {
		end := at + 1 + s.below(size)
		if s.below(30) == 0 {
			end += s.below(700)
		}
		if end > most {
			break
		}
		a.Pieces = append(a.Pieces, impl.Piece{At: at, Data: sent[at:end]})
		at = end + 1 + s.below(gap)
	}
	return a
}

// someInflow is mostly good.
func (s *steps) someInflow(sent string) impl.Inflow {
	a := s.inflow(sent)
	ends := []int{minInt, -2, -1, 0, a.Read - 1, a.Read, a.Read + 1, a.Limit - 1, a.Limit, a.Limit + 1, mostBuffer, mostBuffer + 1, maxInt - 1, maxInt}
	end := ends[s.below(len(ends))]
	switch s.below(24) {
	case 0:
		a.Limit = end
	case 1:
		a.Read = end
	case 2:
		a.Final = end
	case 3:
		slices.Reverse(a.Pieces)
	case 4:
		a.Pieces = append(a.Pieces, impl.Piece{At: end, Data: sent[:s.below(3)]})
	case 5, 6, 7:
		if len(a.Pieces) > 0 {
			x := &a.Pieces[s.below(len(a.Pieces))]
			switch s.below(4) {
			case 0:
				x.At = end
			case 1:
				x.At += s.below(7) - 3
			case 2:
				x.Data = x.Data[:s.below(len(x.Data)+1)]
			case 3:
				x.Data += sent[:s.below(4)]
			}
		}
	}
	return a
}

// someComing is mostly a part of what was sent, often near to what lies there.
func (s *steps) someComing(a impl.Inflow, sent string) (int, string, bool) {
	at, size := s.below(140), s.below(30)
	if len(a.Pieces) > 0 && s.below(2) == 0 {
		x := a.Pieces[s.below(len(a.Pieces))]
		at = x.At + s.below(2)*len(x.Data) + s.below(5) - 2
	}
	switch s.below(20) {
	case 0:
		at = []int{minInt, -1, 0, mostBuffer, mostBuffer + 1, mostVarint, mostVarint + 1, maxInt}[s.below(8)]
	case 1:
		size = 1490 + s.below(13)
	case 2, 3:
		at = a.Read + s.below(5) - 2
	case 4, 5, 6:
		at = max(a.Limit, a.Read) - size + s.below(3) - 1
		if a.Final > a.Read {
			at += a.Final - a.Limit
		}
	case 7, 8:
		size = 0
	case 9, 10:
		size = s.below(3)
	case 11:
		size = s.below(700)
	case 12, 13, 14, 15: // into a gap
		if len(a.Pieces) > 0 {
			x := a.Pieces[s.below(len(a.Pieces))]
			at, size = x.At+len(x.Data)+1+s.below(4), 1+s.below(2)
		}
	}
	data := s.text(size)
	if at >= 0 && at+size <= len(sent) && at < mostBuffer {
		data = sent[at : at+size]
	}
	if size > 0 && s.below(6) == 0 {
		data = turned(data, s.below(size))
	}
	return at, data, s.below(4) == 0
}

func TestInflowsAtAnyArguments(t *testing.T) {
	var s steps
	sent := sentText()
	good, bad, done, raised := 0, 0, 0, 0
	for range 30000 {
		a := s.someInflow(sent)
		told := inflowTold(a)
		if impl.GoodInflow(a) != told {
			t.Fatalf("%+v: not %v", a, told)
		}
		isDone, ok := impl.IsDone(a)
		if ok != told || isDone != (told && a.Read == a.Final) {
			t.Fatalf("%+v: done %v %v", a, isDone, ok)
		}
		if isDone {
			done++
		}
		limit := a.Limit + s.below(5) - 2
		if s.below(3) == 0 {
			limit = mostBuffer + s.below(3) - 1
		}
		if !told {
			bad++
			wantNoRaise(t, a, limit, "not good")
			wantNoRead(t, a, s.below(9), "not good")
			wantBadTake(t, a, s.below(9), s.text(3), false, "not good")
			continue
		}
		good++
		if limit < a.Limit || limit > mostBuffer {
			wantNoRaise(t, a, limit, "limit")
		} else {
			raised++
			wantRaise(t, a, limit)
		}
		most := s.below(20)
		if s.below(9) == 0 {
			most = []int{minInt, -1, 0, mostBuffer - 1, mostBuffer, mostBuffer + 1, maxInt}[s.below(7)]
		}
		if most < 0 || most > mostBuffer {
			wantNoRead(t, a, most, "most")
		} else {
			want, text := readTold(a, most)
			wantSome(t, a, most, text, want)
		}
		if t.Failed() {
			t.FailNow()
		}
	}
	if good < 15000 || bad < 3000 || done < 200 || raised < 5000 {
		t.Error(good, bad, done, raised)
	}
}

func TestTakesAtAnyArguments(t *testing.T) {
	var s steps
	sent := sentText()
	var codes [6]int
	ended, joined := 0, 0
	for range 60000 {
		a := s.someInflow(sent)
		at, data, fin := s.someComing(a, sent)
		want, code := takeTold(a, at, data, fin)
		codes[code]++
		got, gotCode := impl.TakePiece(a, at, data, fin)
		if !sameInflow(got, want) || gotCode != code {
			t.Fatalf("%+v takes %x at %d, %v: %+v %d, not %+v %d", a, data, at, fin, got, gotCode, want, code)
		}
		if code == 0 && !impl.GoodInflow(got) {
			t.Fatalf("%+v takes %x at %d, %v: %+v is not good", a, data, at, fin, got)
		}
		if code == 0 && got.Final != a.Final {
			ended++
		}
		if code == 0 && len(got.Pieces) < len(a.Pieces) {
			joined++
		}
	}
	for code, n := range codes {
		if n < 300 {
			t.Error(code, n, codes)
		}
	}
	if ended < 500 || joined < 1000 {
		t.Error(ended, joined)
	}
}

// nextTold goes byte by byte.
func nextTold(s impl.Outflow, most int) (string, bool, bool) {
	var text []byte
	at := s.Sent
	for len(text) < most && at < s.Limit && at < len(s.Data) {
		text = append(text, s.Data[at])
		at++
	}
	fin := s.Ended && at >= len(s.Data)
	return string(text), fin, fin || at > s.Sent
}

func TestNextPiecesAtAnyArguments(t *testing.T) {
	var s steps
	sent := sentText() + "one more"
	var told, refused, bad, fins, bare int
	for range 30000 {
		data := sent[:s.below(30)]
		if s.below(5) == 0 {
			data = sent[:s.below(mostBuffer+3)]
		}
		a := outflow(s.below(60), s.below(len(data)+1), data, s.below(2) == 0)
		switch s.below(6) {
		case 0:
			a.Limit = len(data) + s.below(5) - 2
		case 1:
			a.Limit = a.Sent + s.below(4) - 1
		case 2:
			a.Limit = []int{minInt, -1, 0, mostVarint, mostVarint + 1, maxInt}[s.below(6)]
		}
		if s.below(6) == 0 {
			a.Sent = []int{minInt, -1, len(data), len(data), len(data) + 1, maxInt}[s.below(6)]
		}
		most := 1 + s.below(30)
		if s.below(4) == 0 {
			most = []int{minInt, -1, 0, 1, 199, 200, 201, maxInt}[s.below(8)]
		}
		good := a.Limit >= 0 && a.Limit <= mostVarint && a.Sent >= 0 && a.Sent <= len(data) && a.Sent <= a.Limit && len(data) <= mostBuffer
		if impl.GoodOutflow(a) != good {
			t.Fatalf("%+v: not %v", a, good)
		}
		if !good || most < 1 || most > 200 {
			bad++
			wantNoNext(t, a, most, "not as said")
			continue
		}
		text, fin, ok := nextTold(a, most)
		switch {
		case !ok:
			refused++
			wantNoNext(t, a, most, "nothing is left")
		default:
			told++
			wantNext(t, a, most, text, fin)
		}
		if ok && fin {
			fins++
		}
		if ok && text == "" {
			bare++
		}
		if t.Failed() {
			t.FailNow()
		}
	}
	if told < 8000 || refused < 800 || bad < 5000 || fins < 2000 || bare < 400 {
		t.Error(told, refused, bad, fins, bare)
	}
}

// playTold looks for which bytes came at all: what was sent never clashes with itself, and has one end.
func playTold(data string, limit int, cuts, order []int) (string, bool) {
	ends := append(slices.Clone(cuts), len(data))
	came := make([]bool, len(data)+1)
	for _, n := range order {
		if n < 0 || n >= len(ends) || ends[n] > limit {
			continue
		}
		begin := 0
		if n > 0 {
			begin = ends[n-1]
		}
		if ends[n]-begin > 1500 {
			continue
		}
		for at := begin; at < ends[n]; at++ {
			came[at] = true
		}
		if n == len(cuts) {
			came[len(data)] = true
		}
	}
	size := slices.Index(came, false)
	if size < 0 {
		return data, true
	}
	return data[:size], false
}

// someCuts rise, mostly.
func (s *steps) someCuts(size int) []int {
	set := map[int]bool{}
	for range s.below(42) {
		set[s.below(size+1)] = true
	}
	cuts := slices.Sorted(maps.Keys(set))
	switch s.below(16) {
	case 0:
		slices.Reverse(cuts)
	case 1:
		cuts = append(cuts, size+s.below(2))
	case 2:
		cuts = slices.Insert(cuts, 0, s.below(2)-1)
	}
	return cuts
}

func (s *steps) someOrder(count int) []int {
	var order []int
	for range s.below(103) {
		order = append(order, s.below(count))
	}
	for n := range count { // mostly each piece comes in the end
		if s.below(30) > 0 && len(order) < 100 {
			order = slices.Insert(order, s.below(len(order)+1), n)
		}
	}
	if len(order) > 0 && s.below(4) == 0 {
		order[s.below(len(order))] = []int{minInt, -1, count, count + 1, maxInt}[s.below(5)]
	}
	return order
}

func TestStreamsAtAnyArguments(t *testing.T) {
	var s steps
	sent := sentText() + "one more"
	var bad, ended, some, none int
	for range 6000 {
		data := sent[:s.below(60)]
		switch s.below(12) {
		case 0:
			data = sent[:s.below(mostBuffer+3)]
		case 1:
			data = sent[:mostBuffer-s.below(3)]
		}
		limit := len(data) + s.below(9)
		switch s.below(8) {
		case 0:
			limit = []int{minInt, -1, 0, mostBuffer, mostBuffer + 1, maxInt}[s.below(6)]
		case 1:
			limit = s.below(len(data) + 1)
		case 2:
			limit = len(data) - 1
		}
		cuts := s.someCuts(len(data))
		order := s.someOrder(len(cuts) + 1)
		rising := len(cuts) <= 40 && slices.Equal(slices.Compact(slices.Sorted(slices.Values(cuts))), cuts)
		if !rising || len(cuts) > 0 && (cuts[0] < 0 || cuts[len(cuts)-1] > len(data)) || limit < 0 || limit > mostBuffer || len(data) > mostBuffer || len(order) > 100 {
			bad++
			wantNoStream(t, data, limit, cuts, order, "not as said")
			continue
		}
		text, done := playTold(data, limit, cuts, order)
		wantStream(t, data, limit, cuts, order, text, done)
		switch {
		case done:
			ended++
		case text == "":
			none++
		default:
			some++
		}
		if t.Failed() {
			t.FailNow()
		}
	}
	if bad < 500 || ended < 1000 || some < 500 || none < 200 {
		t.Error(bad, ended, some, none)
	}
}
