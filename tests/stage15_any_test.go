package tests

import (
	"slices"
	"strings"
	"testing"

	"loop.example/g00206/impl"
)

const nameBytes = "abcdefghijklmnopqrstuvwxyz0123456789-"

func fieldTold(f impl.Field) bool {
	if len(f.Name) < 1 || len(f.Name) > 100 || len(f.Value) > 100 {
		return false
	}
	strange := func(r rune) bool { return r < 32 || r > 126 }
	return strings.Trim(strings.TrimPrefix(f.Name, ":"), nameBytes) == "" && strings.IndexFunc(f.Value, strange) < 0
}

func fieldsTold(l []impl.Field) bool {
	return len(l) <= 30 && !slices.ContainsFunc(l, func(f impl.Field) bool { return !fieldTold(f) })
}

func sizedText(text string, bits, first int) string {
	return prefixElsewhere(len(text), bits, first) + text
}

func fieldElsewhere(f impl.Field) string {
	place, named := staticAtTold(f)
	if place >= 0 {
		return prefixElsewhere(place, 6, 192)
	}
	if named >= 0 {
		return prefixElsewhere(named, 4, 80) + sizedText(f.Value, 7, 0)
	}
	return sizedText(f.Name, 3, 32) + sizedText(f.Value, 7, 0)
}

func fieldsElsewhere(l []impl.Field) string {
	s := "\x00\x00"
	for _, f := range l {
		s += fieldElsewhere(f)
	}
	return s
}

// takeElsewhere takes a number from the front, from its last byte on.
func takeElsewhere(s string, bits int) (n, above, size int) {
	if bits < 3 || bits > 8 || s == "" {
		return 0, 0, 0
	}
	width := 1 << bits
	n = int(s[0]) % width
	above = int(s[0]) - n
	if n != width-1 {
		return n, above, 1
	}
	end := strings.IndexFunc(s[1:min(len(s), 6)], func(r rune) bool { return r < 128 })
	if end < 0 {
		return 0, 0, 0
	}
	behind := 0
	for i := end + 1; i > 0; i-- {
		behind = 128*behind + int(s[i])%128
	}
	if n += behind; n > mostPrefix {
		return 0, 0, 0
	}
	return n, above, end + 2
}

// leastNumber takes a number that is told with these bits above and in as few bytes as can be.
func leastNumber(s string, bits, first int) (int, string, bool) {
	n, above, size := takeElsewhere(s, bits)
	if size == 0 || above != first || s[:size] != prefixElsewhere(n, bits, first) {
		return 0, "", false
	}
	return n, s[size:], true
}

func leastText(s string, bits, first int) (string, string, bool) {
	n, s, ok := leastNumber(s, bits, first)
	if !ok || n > len(s) {
		return "", "", false
	}
	return s[:n], s[n:], true
}

// oneRead reads a field only where it is told in the one way that is its own.
func oneRead(s string) (f impl.Field, rest string, ok bool) {
	static := staticTold()
	if k, rest, ok := leastNumber(s, 6, 192); ok {
		if k >= len(static) {
			return impl.Field{}, "", false
		}
		return static[k], rest, true
	}
	if k, rest, ok := leastNumber(s, 4, 80); ok {
		if k >= len(static) {
			return impl.Field{}, "", false
		}
		value, rest, ok := leastText(rest, 7, 0)
		f = field(static[k].Name, value)
		place, named := staticAtTold(f)
		return f, rest, ok && place < 0 && named == k
	}
	f.Name, rest, ok = leastText(s, 3, 32)
	if ok {
		f.Value, rest, ok = leastText(rest, 7, 0)
	}
	_, named := staticAtTold(f)
	return f, rest, ok && named < 0
}

func fieldsRead(s string) ([]impl.Field, bool) {
	var l []impl.Field
	rest, ok := strings.CutPrefix(s, "\x00\x00")
	for ok && rest != "" {
		var f impl.Field
		f, rest, ok = oneRead(rest)
		l = append(l, f)
	}
	if !ok || !fieldsTold(l) {
		return nil, false
	}
	return l, true
}

func (s *steps) someOf(set string, n int) string {
	b := make([]byte, n)
	for i := range b {
		b[i] = set[s.below(len(set))]
	}
	return string(b)
}

func (s *steps) printable(n int) string {
	b := make([]byte, n)
	for i := range b {
		b[i] = byte(32 + s.below(95))
	}
	return string(b)
}

// someLength is mostly short, and else near to the ends.
func (s *steps) someLength() int {
	if s.below(6) > 0 {
		return s.below(12)
	}
	return []int{0, 1, 6, 7, 8, 98, 99, 100}[s.below(8)]
}

func (s *steps) goodField() impl.Field {
	f := staticTold()[s.below(16)]
	switch s.below(8) {
	case 0, 1, 2:
		return f
	case 3, 4:
		f.Value = s.printable(s.someLength())
	case 5:
		f.Value = staticTold()[s.below(16)].Value
	case 6:
		f.Name = s.someOf(nameBytes, 1+s.below(100))
	default:
		f.Name = s.someOf("ab-", 1+s.someLength()%99)
		f.Value = s.printable(s.someLength())
	}
	if s.below(4) == 0 && f.Name[0] != ':' && len(f.Name) < 100 {
		f.Name = ":" + f.Name
	}
	return f
}

// someFields are mostly good.
func (s *steps) someFields() []impl.Field {
	count := s.below(6)
	switch s.below(20) {
	case 0:
		count = 31
	case 1, 2:
		count = 28 + s.below(3)
	}
	l := make([]impl.Field, count)
	for i := range l {
		l[i] = s.goodField()
	}
	if count > 0 && s.below(4) == 0 {
		f := &l[s.below(count)]
		switch s.below(7) {
		case 0:
			f.Name = ""
		case 1:
			f.Name = letters(99 + s.below(3))
		case 2:
			f.Value = letters(99 + s.below(3))
		case 3:
			f.Name += s.text(1)
		case 4:
			f.Name = s.text(1) + f.Name
		case 5:
			f.Value += s.text(1)
		case 6:
			f.Value = s.text(1) + f.Value
		}
	}
	return l
}

// needless writes a number with bytes of 128 that nobody needs.
func (s *steps) needless(n, bits, first int) string {
	told := prefixElsewhere(n, bits, first)
	if len(told) < 2 {
		return told
	}
	last := string([]byte{told[len(told)-1] | 128})
	return told[:len(told)-1] + last + strings.Repeat("\x80", s.below(3)) + "\x00"
}

// freely tells a field in any way that it can be told in.
func (s *steps) freely(f impl.Field) string {
	number := prefixElsewhere
	if s.below(2) == 0 {
		number = s.needless
	}
	value := number(len(f.Value), 7, 0) + f.Value
	var places []int
	for k, x := range staticTold() {
		if x.Name == f.Name {
			places = append(places, k)
		}
	}
	if len(places) > 0 && s.below(3) > 0 {
		return number(places[s.below(len(places))], 4, 80) + value
	}
	return number(len(f.Name), 3, 32) + f.Name + value
}

func (s *steps) someFieldsBytes() string {
	text := "\x00\x00"
	freely := s.below(3) == 0
	for _, f := range s.someFields() {
		if freely && s.below(3) == 0 {
			text += s.freely(f)
		} else {
			text += fieldElsewhere(f)
		}
	}
	switch s.below(8) {
	case 0:
		text = text[:s.below(len(text)+1)]
	case 1:
		text += s.text(1 + s.below(2))
	case 2:
		text = turned(text, s.below(8*len(text)))
	case 3:
		at := s.below(len(text))
		text = text[:at] + s.text(1) + text[at:]
	case 4:
		at := s.below(len(text))
		text = text[:at] + text[at+1:]
	}
	return text
}

// lastLow marks all bytes but the last one.
func lastLow(text string, last int) string {
	b := []byte(text)
	for i := range b {
		b[i] |= 128
	}
	b[len(b)-1] = byte(last)
	return string(b)
}

func TestTakePrefixAtAnyArguments(t *testing.T) {
	var s steps
	var sizes [8]int
	above := 0
	for range 300000 {
		bits := 3 + s.below(6)
		if s.below(20) == 0 {
			bits = s.below(14) - 2
		}
		text := s.text(s.below(9))
		if s.below(3) > 0 && len(text) > 0 {
			text = "\xff" + text[1:]
		}
		if s.below(3) == 0 {
			text = strings.ReplaceAll(text, "\x00", "\x80")
			at := s.below(len(text) + 1)
			text = text[:at] + strings.Repeat("\x80", s.below(6)) + text[at:]
		}
		if s.below(9) == 0 { // as many bytes as there may be, about the highest number
			text = "\xff" + lastLow(s.text(5), s.below(5))
		}
		n, high, size := takeElsewhere(text, bits)
		sizes[size]++
		if high > 0 {
			above++
		}
		if gotN, gotHigh, gotSize := impl.TakePrefix(text, bits); gotN != n || gotHigh != high || gotSize != size {
			t.Fatalf("%x by %d bits: %d %d %d, not %d %d %d", text, bits, gotN, gotHigh, gotSize, n, high, size)
		}
		// what comes back is told in no more bytes
		if told, ok := impl.PrefixBytes(n, bits, high); size > 0 && (!ok || len(told) > size || told != prefixElsewhere(n, bits, high)) {
			t.Fatalf("%d by %d bits, %d: %x %v", n, bits, high, told, ok)
		}
	}
	for size, count := range sizes[:7] {
		if count < 1000 {
			t.Error(size, sizes)
		}
	}
	if above < 50000 {
		t.Error(above)
	}
}

func TestPrefixBytesAtAnyArguments(t *testing.T) {
	var s steps
	good, bad := 0, 0
	for range 100000 {
		n := []int{s.below(300), s.below(mostPrefix + 1), mostPrefix - s.below(2), mostPrefix + 1, -1, minInt, maxInt}[s.below(7)]
		bits := s.below(11)
		first := []int{0, s.below(256), s.below(32) * 8, s.below(4) * 64, -8, 256, minInt, maxInt - 255}[s.below(8)]
		told := n >= 0 && n <= mostPrefix && bits >= 3 && bits <= 8 && first >= 0 && first < 256
		if !told || first%(1<<bits) != 0 {
			bad++
			wantNoPrefix(t, n, bits, first, "at any arguments")
			continue
		}
		good++
		if s, ok := impl.PrefixBytes(n, bits, first); s != prefixElsewhere(n, bits, first) || !ok {
			t.Fatalf("%d by %d bits, %d: %x %v", n, bits, first, s, ok)
		}
	}
	if good < 5000 || bad < 5000 {
		t.Error(good, bad)
	}
}

func TestFieldsAtAnyArguments(t *testing.T) {
	var s steps
	good, bad, found, most := 0, 0, 0, 0
	for range 30000 {
		l := s.someFields()
		want := fieldsTold(l)
		if impl.GoodFields(l) != want {
			t.Fatalf("%q: not %v", l, want)
		}
		told, ok := impl.FieldsBytes(l)
		name := []string{"", ":path", "date", "a", letters(100)}[s.below(5)]
		if len(l) > 0 && s.below(3) > 0 {
			name = l[s.below(len(l))].Name
		}
		value, there := impl.FieldOf(l, name)
		if !want {
			bad++
			if told != "" || ok || value != "" || there {
				t.Fatalf("%q: %x %v %q %v", l, told, ok, value, there)
			}
			continue
		}
		good++
		if told != fieldsElsewhere(l) || !ok {
			t.Fatalf("%q: %x %v", l, told, ok)
		}
		if back, ok := impl.ReadFields(told); !slices.Equal(back, l) || !ok {
			t.Fatalf("%x: %q %v, not %q", told, back, ok, l)
		}
		if len(l) == 30 {
			most++
		}
		k := slices.IndexFunc(l, func(f impl.Field) bool { return f.Name == name })
		if there != (k >= 0) || there && value != l[k].Value || !there && value != "" {
			t.Fatalf("%q in %q: %q %v", name, l, value, there)
		}
		if there {
			found++
		}
	}
	if good < 15000 || bad < 3000 || found < 10000 || most < 300 {
		t.Error(good, bad, found, most)
	}
}

func TestStaticAtAtAnyArguments(t *testing.T) {
	var s steps
	kinds := map[[2]bool]int{}
	for range 20000 {
		f := s.goodField()
		if s.below(5) == 0 {
			f = field(s.text(s.below(4)), s.text(s.below(4)))
		}
		place, named := staticAtTold(f)
		kinds[[2]bool{place >= 0, named >= 0}]++
		wantAt(t, f, place, named)
	}
	if len(kinds) != 3 || kinds[[2]bool{false, true}] < 2000 {
		t.Error(kinds)
	}
}

func TestReadFieldsAtAnyArguments(t *testing.T) {
	var s steps
	read, refused, own, most := 0, 0, 0, 0
	for range 60000 {
		text := s.someFieldsBytes()
		if s.below(20) == 0 {
			text = "\x00\x00" + s.text(s.below(6))
		}
		want, ok := fieldsRead(text)
		l, gotOk := impl.ReadFields(text)
		if !slices.Equal(l, want) || gotOk != ok {
			t.Fatalf("%x: %q %v, not %q %v", text, l, gotOk, want, ok)
		}
		if !ok {
			refused++
			continue
		}
		read++
		if told, ok := impl.FieldsBytes(l); told != text || !ok {
			t.Fatalf("%x: %q, told as %x %v", text, l, told, ok)
		}
		if len(l) > 0 {
			own++
		}
		if len(l) == 30 {
			most++
		}
	}
	if read < 15000 || refused < 15000 || own < 10000 || most < 300 {
		t.Error(read, refused, own, most)
	}
}

// Of all bytes just those that FieldsBytes writes are read.
func TestReadFieldsOfAllShortBytes(t *testing.T) {
	own := map[string]bool{"\x00\x00": true}
	for _, f := range staticTold() {
		own[fieldsElsewhere([]impl.Field{f})] = true
		own[fieldsElsewhere([]impl.Field{field(f.Name, "")})] = true
		for _, g := range staticTold() {
			own[fieldsElsewhere([]impl.Field{f, g})] = true
		}
	}
	for a := range 256 {
		for b := range 256 {
			s := "\x00\x00" + string([]byte{byte(a), byte(b)})
			if l, ok := impl.ReadFields(s); ok != own[s] || !ok && len(l) != 0 {
				t.Errorf("%x: %q %v", s, l, ok)
			}
		}
		s := "\x00\x00" + string([]byte{byte(a)})
		if l, ok := impl.ReadFields(s); ok != own[s] || !ok && len(l) != 0 {
			t.Errorf("%x: %q %v", s, l, ok)
		}
	}
}
