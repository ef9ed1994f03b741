package tests

import (
	"slices"
	"strings"
	"testing"

	"loop.example/g00206/impl"
)

// fields are told as `name value`, one behind the other with a semicolon and a blank between.
func fields(text string) []impl.Field {
	var l []impl.Field
	if text == "" {
		return l
	}
	for told := range strings.SplitSeq(text, "; ") {
		name, value, _ := strings.Cut(told, " ")
		l = append(l, field(name, value))
	}
	return l
}

func repeated(f impl.Field, n int) []impl.Field {
	return slices.Repeat([]impl.Field{f}, n)
}

func wantKeptFields(t *testing.T, what string, l, kept []impl.Field) {
	t.Helper()
	if !slices.Equal(l, kept) {
		t.Errorf("%s: %q became %q", what, kept, l)
	}
}

// wantFields holds what the fields are told as, and that these bytes tell them again.
func wantFields(t *testing.T, l []impl.Field, want string) {
	t.Helper()
	kept := slices.Clone(l)
	if !impl.GoodFields(l) {
		t.Errorf("%q: not good", l)
	}
	if s, ok := impl.FieldsBytes(l); s != want || !ok {
		t.Errorf("%q: %x %v, not %x", l, s, ok, want)
	}
	wantKeptFields(t, "GoodFields, FieldsBytes", l, kept)
	wantReadFields(t, want, l)
}

func wantNoFields(t *testing.T, l []impl.Field, why string) {
	t.Helper()
	kept := slices.Clone(l)
	if impl.GoodFields(l) {
		t.Errorf("%s: %q are good", why, l)
	}
	if s, ok := impl.FieldsBytes(l); s != "" || ok {
		t.Errorf("%s: %q: %x %v", why, l, s, ok)
	}
	for _, f := range l {
		if value, ok := impl.FieldOf(l, f.Name); value != "" || ok {
			t.Errorf("%s: %q in %q: %q %v", why, f.Name, l, value, ok)
		}
	}
	wantKeptFields(t, why, l, kept)
}

func wantFieldOf(t *testing.T, l []impl.Field, name, want string) {
	t.Helper()
	if value, ok := impl.FieldOf(l, name); value != want || !ok {
		t.Errorf("%q in %q: %q %v, not %q", name, l, value, ok, want)
	}
}

func wantNoFieldOf(t *testing.T, l []impl.Field, name, why string) {
	t.Helper()
	if value, ok := impl.FieldOf(l, name); value != "" || ok {
		t.Errorf("%s: %q in %q: %q %v", why, name, l, value, ok)
	}
}

// wantFieldAmong holds a field by itself and between good ones.
func wantFieldAmong(t *testing.T, f impl.Field, good bool, why string) {
	t.Helper()
	other, known := field("other-1", "b"), field(":scheme", "http")
	for _, l := range [][]impl.Field{{f}, {f, other}, {other, f}, {known, f, other}} {
		if !good {
			wantNoFields(t, l, why)
			continue
		}
		s, ok := impl.FieldsBytes(l)
		if !ok || !impl.GoodFields(l) {
			t.Errorf("%s: %q: %x %v", why, l, s, ok)
		}
		wantReadFields(t, s, l)
		wantFieldOf(t, l, f.Name, f.Value)
	}
}

func TestFieldsBytesKnown(t *testing.T) {
	for _, c := range []struct{ fields, bytes string }{
		{"", ""},
		// told by its place
		{":authority", "c0"},
		{":path /", "c1"},
		{":method CONNECT", "c2"},
		{":method GET", "c3"},
		{":method POST", "c4"},
		{":scheme http", "c5"},
		{":scheme https", "c6"},
		{":status 200", "c7"},
		{":status 404", "c8"},
		{":status 503", "c9"},
		{":protocol connect-udp", "ca"},
		{"capsule-protocol ?1", "cb"},
		{"content-length 0", "cc"},
		{"date", "cd"},
		{"user-agent", "ce"},
		{"accept */*", "cf"},
		// told by its name's place, the first one
		{":authority a", "50 01 61"},
		{":path /x", "51 02 2f78"},
		{":path", "51 00"},
		{":method PUT", "52 03 505554"},
		{":method", "52 00"},
		{":scheme masque", "55 06 6d6173717565"},
		{":status 201", "57 03 323031"},
		{":status", "57 00"},
		{":protocol x", "5a 01 78"},
		{"capsule-protocol ?0", "5b 02 3f30"},
		{"content-length 12", "5c 02 3132"},
		{"date 1", "5d 01 31"},
		{"user-agent me", "5e 02 6d65"},
		{"accept a/b", "5f00 03 612f62"},
		{"accept", "5f00 00"},
		// told by its name and value written out
		{"a", "21 61 00"},
		{"ab c", "22 6162 01 63"},
		{": /", "21 3a 01 2f"},
		{"- -", "21 2d 01 2d"},
		{"abcdef ~", "26 616263646566 01 7e"},
		{"abcdefg 1", "2700 61626364656667 01 31"},
		{"abcdefgh 1", "2701 6162636465666768 01 31"},
		{"path /", "24 70617468 01 2f"},
		{"status 200", "26 737461747573 03 323030"},
		// some
		{":method GET; :path /x; ab c", "c3 51022f78 22616201 63"},
		{":status 200; :status 200; x; x", "c7 c7 217800 217800"},
		{"accept; accept */*; accept */*", "5f0000 cf cf"},
		{":method CONNECT; :protocol connect-udp; :scheme https; :path /a/1/; :authority e; capsule-protocol ?1",
			"c2 ca c6 51 05 2f612f312f 50 01 65 cb"},
	} {
		wantFields(t, fields(c.fields), "\x00\x00"+unhex(c.bytes))
	}
}

func TestFieldsBytesOfLongTexts(t *testing.T) {
	for _, c := range []struct {
		size int
		name string
		text string
	}{
		{1, "21", "01"},
		{6, "26", "06"},
		{7, "2700", "07"},
		{8, "2701", "08"},
		{99, "275c", "63"},
		{100, "275d", "64"},
	} {
		name, value := strings.Repeat("n", c.size), strings.Repeat("v", c.size)
		wantFields(t, []impl.Field{field(name, "")}, "\x00\x00"+unhex(c.name)+name+"\x00")
		wantFields(t, []impl.Field{field(name, value)}, "\x00\x00"+unhex(c.name)+name+unhex(c.text)+value)
		wantFields(t, []impl.Field{field("accept", value)}, "\x00\x00\x5f\x00"+unhex(c.text)+value)
		wantFields(t, []impl.Field{field(":authority", value), field("date", "")}, "\x00\x00\x50"+unhex(c.text)+value+"\xcd")
	}
}

func TestFieldsOfManySorts(t *testing.T) {
	for _, c := range []struct {
		f    impl.Field
		told string
	}{
		{field(":path", "/"), "\xc1"},
		{field("accept", "x"), "\x5f\x00\x01x"},
		{field("a", ""), "\x21a\x00"},
		{field(strings.Repeat("n", 100), strings.Repeat(" ", 100)), "\x27\x5d" + strings.Repeat("n", 100) + "\x64" + strings.Repeat(" ", 100)},
	} {
		for _, n := range []int{0, 1, 2, 29, 30} {
			wantFields(t, repeated(c.f, n), "\x00\x00"+strings.Repeat(c.told, n))
		}
		for _, n := range []int{31, 32, 60, 1000} {
			wantNoFields(t, repeated(c.f, n), "too many")
			wantNoReadFields(t, "\x00\x00"+strings.Repeat(c.told, n), "too many")
		}
	}
}

func TestNamesOfEachByte(t *testing.T) {
	for b := range 256 {
		one := string([]byte{byte(b)})
		good := strings.Contains("abcdefghijklmnopqrstuvwxyz0123456789-", one)
		wantFieldAmong(t, field(one, "v"), good || one == ":", "a name of one byte")
		wantFieldAmong(t, field(one+"x", "v"), good || one == ":", "first byte of a name")
		wantFieldAmong(t, field("x"+one, ""), good, "last byte of a name")
		wantFieldAmong(t, field("x"+one+"x", ""), good, "a byte amid a name")
		wantFieldAmong(t, field(":"+one, "v"), good, "the byte behind a colon")
		wantFieldAmong(t, field(":x"+one, "v"), good, "a byte of a name with a colon")
		wantFieldAmong(t, field(strings.Repeat("x", 99)+one, ""), good, "byte 100 of a name")
		wantFieldAmong(t, field(":path"+one, "/"), good, "a byte behind a name of the table")
	}
}

func TestNamesOfEachLength(t *testing.T) {
	for size := 1; size <= 100; size++ {
		wantFieldAmong(t, field(letters(size), "v"), true, "length of a name")
		wantFieldAmong(t, field(":"+letters(size-1), "v"), true, "length of a name")
	}
	wantFieldAmong(t, field("", ""), false, "no name")
	wantFieldAmong(t, field("", "v"), false, "no name")
	for _, size := range []int{101, 102, 127, 128, 200, 256, 257, 356, 5000} {
		wantFieldAmong(t, field(letters(size), ""), false, "length of a name")
		wantFieldAmong(t, field(":"+letters(size-1), "v"), false, "length of a name")
	}
}

func TestValuesOfEachByte(t *testing.T) {
	for b := range 256 {
		one := string([]byte{byte(b)})
		good := b >= 32 && b <= 126
		for _, name := range []string{"x", ":path", "date"} {
			wantFieldAmong(t, field(name, one), good, "a value of one byte")
			wantFieldAmong(t, field(name, one+"v"), good, "first byte of a value")
			wantFieldAmong(t, field(name, "v"+one), good, "last byte of a value")
			wantFieldAmong(t, field(name, "v"+one+"v"), good, "a byte amid a value")
			wantFieldAmong(t, field(name, strings.Repeat("v", 99)+one), good, "byte 100 of a value")
		}
	}
}

func TestValuesOfEachLength(t *testing.T) {
	for _, name := range []string{"x", ":path", "accept", letters(100)} {
		for size := range 101 {
			wantFieldAmong(t, field(name, letters(size)), true, "length of a value")
		}
		for _, size := range []int{101, 102, 127, 128, 200, 256, 257, 5000} {
			wantFieldAmong(t, field(name, letters(size)), false, "length of a value")
		}
	}
}

// A wrong field makes all wrong, at whatever place it stands.
func TestAWrongFieldAmongThirty(t *testing.T) {
	for _, wrong := range []impl.Field{field("", "x"), field("A", "x"), field("a:", "x"), field("a", "\x1f"), field("a", "\x7f"), field(letters(101), ""), field("a", letters(101))} {
		for k := range 30 {
			l := repeated(field("a", "b"), 30)
			l[k] = wrong
			wantNoFields(t, l, "one of thirty")
		}
	}
}

func TestFieldOf(t *testing.T) {
	l := fields(":method GET; a 1; b 2; a 3; c; c 4; :path /x; -; b 2")
	for _, c := range []struct{ name, value string }{
		{":method", "GET"},
		{"a", "1"}, // the first of two
		{"b", "2"},
		{"c", ""}, // the first of two has no value
		{":path", "/x"},
		{"-", ""},
	} {
		wantFieldOf(t, l, c.name, c.value)
	}
	for _, name := range []string{"", "d", "A", "aa", ":a", "method", ":pat", ":paths", "GET", "1", "2", "/x", ":status", "a ", "a\x00", "\xff", letters(101), strings.Repeat("a", 5000)} {
		wantNoFieldOf(t, l, name, "not there")
	}
	for _, name := range []string{"", "a", ":method", ":path"} {
		wantNoFieldOf(t, nil, name, "no fields")
		wantNoFieldOf(t, []impl.Field{}, name, "no fields")
	}
	many := repeated(field("a", "b"), 29)
	many = append(many, field("last", letters(100)))
	wantFieldOf(t, many, "last", letters(100))
	wantNoFieldOf(t, append(many, field("z", "")), "last", "31 fields")
	wantNoFieldOf(t, append(many, field("z", "")), "a", "31 fields")
	wantNoFieldOf(t, fields("a 1; B 2"), "a", "not good")
	wantNoFieldOf(t, fields("a 1; B 2"), "B", "not good")
	wantNoFieldOf(t, []impl.Field{field("a", "1"), field("b", "\t")}, "a", "not good")
	wantNoFieldOf(t, []impl.Field{field("", "1")}, "", "not good")
}
