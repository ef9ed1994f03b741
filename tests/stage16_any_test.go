package tests

import (
	"encoding/binary"
	"slices"
	"strings"
	"testing"

	"loop.example/g00206/impl"
)

func capsuleTold(c impl.Capsule) bool {
	return c.Kind >= 0 && c.Kind <= mostVarint && len(c.Data) <= 200
}

func capsulesTold(l []impl.Capsule) bool {
	return len(l) <= 30 && !slices.ContainsFunc(l, func(c impl.Capsule) bool { return !capsuleTold(c) })
}

// varintAhead takes a number of any size from the front.
func varintAhead(s string) (n int, rest string, ok bool) {
	if s == "" {
		return 0, s, false
	}
	size := []int{1, 2, 4, 8}[s[0]/64]
	if len(s) < size {
		return 0, s, false
	}
	var whole [8]byte
	copy(whole[8-size:], s[:size])
	whole[8-size] %= 64
	return int(binary.BigEndian.Uint64(whole[:])), s[size:], true
}

func capsulesRead(s string) (l []impl.Capsule, size int, ok bool) {
	if len(s) > 1500 {
		return nil, 0, false
	}
	rest := s
	for {
		kind, behind, there := varintAhead(rest)
		length, data, known := varintAhead(behind)
		if !there || !known {
			break
		}
		if length > 200 {
			return nil, 0, false
		}
		if length > len(data) {
			break
		}
		l = append(l, capsule(kind, data[:length]))
		rest = data[length:]
	}
	if len(l) > 30 {
		return nil, 0, false
	}
	return l, len(s) - len(rest), true
}

func carriedTold(c impl.Carried) bool {
	return c.Stream >= 0 && c.Stream < mostVarint-2 && c.Stream%4 == 0 && c.Context >= 0 && c.Context <= mostVarint && len(c.Data) <= 1200
}

func carriedRead(s string) (impl.Carried, bool) {
	stream, rest, ok := varintAhead(s)
	context, data, there := varintAhead(rest)
	if !ok || !there || len(s) > 1500 || len(data) > 1200 || stream > mostVarint/4 {
		return impl.Carried{}, false
	}
	return carried(4*stream, context, data), true
}

// someVarint is near to where the sizes of varints end, or anywhere.
func (s *steps) someVarint() int {
	switch s.below(4) {
	case 0:
		return s.below(4)
	case 1:
		ends := []int{64, 16384, 1073741824, mostVarint}
		return ends[s.below(4)] - s.below(2)
	}
	return s.number() & mostVarint
}

// anySize writes a number in as many bytes as it needs, or in more.
func (s *steps) anySize(n int) string {
	sizes := []int{1, 2, 4, 8}
	for {
		if size := sizes[s.below(4)]; size >= len(leastVarint(n)) {
			return varint(n, size)
		}
	}
}

func (s *steps) goodCapsule() impl.Capsule {
	size := s.below(10)
	if s.below(5) == 0 {
		size = []int{0, 1, 62, 63, 64, 65, 199, 200}[s.below(8)]
	}
	return capsule(s.someVarint(), s.text(size))
}

// someCapsules are mostly good.
func (s *steps) someCapsules() []impl.Capsule {
	count := s.below(8)
	switch s.below(10) {
	case 0:
		count = 31
	case 1:
		count = 28 + s.below(3)
	}
	long := s.below(12) == 0
	l := make([]impl.Capsule, count)
	for i := range l {
		l[i] = s.goodCapsule()
		if long {
			l[i].Data = s.text(s.below(201))
		}
	}
	if count > 0 && s.below(5) == 0 {
		c := &l[s.below(count)]
		switch s.below(4) {
		case 0:
			c.Kind = []int{-1, -2, minInt, mostVarint + 1, maxInt}[s.below(5)]
		case 1:
			c.Data = s.text(201 + s.below(3))
		case 2:
			c.Data = s.text(200)
		case 3:
			c.Kind = mostVarint
		}
	}
	return l
}

// someCapsulesBytes are mostly of good capsules, in varints of any sizes, and mostly not cut off.
func (s *steps) someCapsulesBytes() string {
	text := ""
	for _, c := range s.someCapsules() {
		text += s.anySize(c.Kind&mostVarint) + s.anySize(len(c.Data)) + c.Data
	}
	switch s.below(8) {
	case 0:
		text = text[:s.below(len(text)+1)]
	case 1:
		text += s.text(1 + s.below(4))
	case 2:
		if len(text) > 0 {
			text = turned(text, s.below(8*len(text)))
		}
	case 3:
		at := s.below(len(text) + 1)
		text = text[:at] + s.text(1) + text[at:]
	case 4:
		text = (text + text + text)[:min(3*len(text), 1498+s.below(5))]
	}
	return text
}

// somePieces cut a text into mostly few enough pieces, some of them empty.
func (s *steps) somePieces(text string) []string {
	count := 1 + s.below(12)
	if s.below(4) == 0 {
		count = 58 + s.below(4)
	}
	ends := []int{len(text)}
	for len(ends) < count {
		end := s.below(len(text) + 1)
		ends = append(ends, end)
		if s.below(4) == 0 && len(ends) < count {
			ends = append(ends, end)
		}
	}
	slices.Sort(ends)
	var l []string
	from := 0
	for _, end := range ends {
		l = append(l, text[from:end])
		from = end
	}
	return l
}

// Promise 16: capsules come back from their bytes, wherever these are cut; pieces are as all together.
func TestCapsulesComeBackInPieces(t *testing.T) {
	var s steps
	several, together := 0, 0
	for range 5000 {
		l := s.someCapsules()
		text, ok := impl.CapsulesBytes(l)
		if !ok || len(text) > 1500 {
			continue
		}
		for range 4 {
			pieces := s.somePieces(text)
			if len(pieces) <= 60 {
				wantFeed(t, pieces, l, 0)
				several++
			}
			at := s.below(len(text) + 1)
			wantFeed(t, []string{text[:at], text[at:]}, l, 0)
			ahead, size, ok := impl.ReadCapsules(text[:at])
			if !ok || size > at || len(ahead) > len(l) || !slices.Equal(ahead, l[:len(ahead)]) {
				t.Fatalf("%x: %v %d %v, not a beginning of %v", text[:at], ahead, size, ok, l)
			}
			if behind, more, ok := impl.ReadCapsules(text[size:]); !ok || size+more != len(text) || !slices.Equal(slices.Concat(ahead, behind), l) {
				t.Fatalf("%x: %v %v %d %v, not %v", text, ahead, behind, more, ok, l)
			}
			together++
		}
	}
	if several < 5000 || together < 5000 {
		t.Error(several, together)
	}
}

func TestCapsulesBytesAtAnyArguments(t *testing.T) {
	var s steps
	good, bad, most, long, known := 0, 0, 0, 0, 0
	for range 20000 {
		l := s.someCapsules()
		if !capsulesTold(l) {
			bad++
			wantNoCapsules(t, l, "at any arguments")
			continue
		}
		good++
		text, ok := impl.CapsulesBytes(l)
		if text != capsulesElsewhere(l) || !ok {
			t.Fatalf("%v: %x %v", l, text, ok)
		}
		if len(l) == 30 {
			most++
		}
		back, size, ok := impl.ReadCapsules(text)
		if len(text) > 1500 {
			long++
			if len(back) != 0 || size != 0 || ok {
				t.Fatalf("%x: %v %d %v", text, back, size, ok)
			}
		} else if !slices.Equal(back, l) || size != len(text) || !ok {
			t.Fatalf("%x: %v %d %v, not %v", text, back, size, ok, l)
		}
		want := slices.DeleteFunc(slices.Clone(l), func(c impl.Capsule) bool { return c.Kind != 0 && c.Kind != 1 })
		wantKnown(t, l, want)
		known += len(want)
	}
	if good < 10000 || bad < 3000 || most < 300 || long < 100 || known < 5000 {
		t.Error(good, bad, most, long, known)
	}
}

func TestReadCapsulesAtAnyArguments(t *testing.T) {
	var s steps
	whole, cut, refused, most, none := 0, 0, 0, 0, 0
	for range 60000 {
		text := s.someCapsulesBytes()
		if s.below(20) == 0 {
			text = s.text(s.below(6))
		}
		want, wantSize, wantOk := capsulesRead(text)
		l, size, ok := impl.ReadCapsules(text)
		if !slices.Equal(l, want) || size != wantSize || ok != wantOk {
			t.Fatalf("%x: %v %d %v, not %v %d %v", text, l, size, ok, want, wantSize, wantOk)
		}
		pieces := s.somePieces(text)
		l, left, ok := impl.FeedCapsules(pieces)
		switch {
		case len(pieces) > 60:
			wantNoFeed(t, pieces, "many pieces")
		case !slices.Equal(l, want) || ok != wantOk || wantOk && left != len(text)-wantSize || !wantOk && left != 0:
			t.Fatalf("%x: %v %d %v, not %v %d %v", pieces, l, left, ok, want, len(text)-wantSize, wantOk)
		}
		switch {
		case !wantOk:
			refused++
		case wantSize < len(text):
			cut++
		case len(want) == 30:
			most++
		case len(want) > 0:
			whole++
		default:
			none++
		}
	}
	if whole < 10000 || cut < 6000 || refused < 6000 || most < 500 || none < 500 {
		t.Error(whole, cut, refused, most, none)
	}
}

func TestFeedCapsulesAtAnyPieces(t *testing.T) {
	var s steps
	whole, refused, many := 0, 0, 0
	for range 20000 {
		var pieces []string
		for range s.below(5) {
			pieces = append(pieces, s.someCapsulesBytes(), s.text(s.below(2)))
		}
		if s.below(20) == 0 {
			pieces = append(pieces, slices.Repeat([]string{""}, 50+s.below(15))...)
		}
		want, size, ok := capsulesRead(strings.Join(pieces, ""))
		if len(pieces) > 60 || !ok {
			wantNoFeed(t, pieces, "at any pieces")
			refused++
			continue
		}
		wantFeed(t, pieces, want, len(strings.Join(pieces, ""))-size)
		if len(pieces) > 30 {
			many++
		}
		if len(want) > 0 {
			whole++
		}
	}
	if whole < 2000 || refused < 2000 || many < 100 {
		t.Error(whole, refused, many)
	}
}

// Promise 16: what is carried comes back.
func TestCarriedAtAnyArguments(t *testing.T) {
	var s steps
	good, bad := 0, 0
	for range 60000 {
		c := carried(4*(s.someVarint()>>2), s.someVarint(), s.text(s.below(20)))
		switch s.below(12) {
		case 0:
			c.Stream = []int{-4, minInt, mostVarint - 3, mostVarint + 1, maxInt - 3, s.someVarint(), s.number()}[s.below(7)]
		case 1:
			c.Context = []int{-1, minInt, mostVarint, mostVarint + 1, maxInt, s.number()}[s.below(6)]
		case 2:
			c.Data = letters(1198 + s.below(5))
		}
		if !carriedTold(c) {
			bad++
			wantNoCarried(t, c, "at any arguments")
			continue
		}
		good++
		wantCarried(t, c, leastVarint(c.Stream/4)+leastVarint(c.Context)+c.Data)
	}
	if good < 30000 || bad < 4000 {
		t.Error(good, bad)
	}
}

func TestReadCarriedAtAnyArguments(t *testing.T) {
	var s steps
	read, refused := 0, 0
	for range 60000 {
		text := s.text(s.below(20))
		if s.below(2) == 0 {
			text = s.anySize(s.someVarint()) + s.anySize(s.someVarint()) + text
		}
		switch s.below(20) {
		case 0:
			text += letters(1180 + s.below(40))
		case 1:
			text = (text + letters(1600))[:1498+s.below(5)]
		}
		want, ok := carriedRead(text)
		if !ok {
			refused++
			wantNoReadCarried(t, text, "at any arguments")
			continue
		}
		read++
		wantReadCarried(t, text, want)
		again, ok := impl.CarriedBytes(want)
		if c, there := impl.ReadCarried(again); !ok || !there || c != want || len(again) > len(text) {
			t.Fatalf("%x: %v, told as %x %v", text, want, again, ok)
		}
	}
	if read < 15000 || refused < 15000 {
		t.Error(read, refused)
	}
}
