package tests

import (
	"slices"
	"strings"
	"testing"

	"loop.example/g00206/impl"
)

func wantReadFields(t *testing.T, s string, want []impl.Field) {
	t.Helper()
	if l, ok := impl.ReadFields(s); !slices.Equal(l, want) || !ok {
		t.Errorf("%x: %q %v, not %q", s, l, ok, want)
	}
}

func wantNoReadFields(t *testing.T, s, why string) {
	t.Helper()
	if l, ok := impl.ReadFields(s); len(l) != 0 || ok {
		t.Errorf("%s: %.80x: %q %v", why, s, l, ok)
	}
}

// told is a field with its bytes.
type told struct {
	bytes string
	f     impl.Field
}

func someTold() []told {
	return []told{
		{"\xc0", field(":authority", "")},
		{"\xc3", field(":method", "GET")},
		{"\xcf", field("accept", "*/*")},
		{"\x50\x01a", field(":authority", "a")},
		{"\x51\x00", field(":path", "")},
		{"\x57\x03201", field(":status", "201")},
		{"\x5f\x00\x00", field("accept", "")},
		{"\x5f\x00\x03a/b", field("accept", "a/b")},
		{"\x21a\x00", field("a", "")},
		{"\x22ab\x01c", field("ab", "c")},
		{"\x27\x00abcdefg\x02hi", field("abcdefg", "hi")},
		{"\x27\x5d" + letters(100) + "\x64" + letters(100), field(letters(100), letters(100))},
	}
}

func TestReadFieldsOfNoFields(t *testing.T) {
	wantReadFields(t, "\x00\x00", nil)
	wantNoReadFields(t, "", "nothing")
	wantNoReadFields(t, "\x00", "one byte")
	wantNoReadFields(t, "\x00\x00\x00", "three bytes 0")
	wantNoReadFields(t, strings.Repeat("\x00", 3000), "bytes 0")
	wantNoReadFields(t, "\xc1", "nothing ahead")
	wantNoReadFields(t, "\x00\xc1", "one byte ahead")
	wantNoReadFields(t, "\x21a\x00", "nothing ahead")
}

func TestReadFieldsWithOtherBytesAhead(t *testing.T) {
	for _, behind := range []string{"", "\xc1", "\x21a\x00"} {
		for a := range 256 {
			for b := range 256 {
				if a != 0 || b != 0 {
					wantNoReadFields(t, string([]byte{byte(a), byte(b)})+behind, "bytes ahead")
				}
			}
		}
	}
}

// What is cut off where a field ends tells the fields ahead of it, and elsewhere none.
func TestReadFieldsCutOff(t *testing.T) {
	for _, first := range someTold() {
		for _, second := range someTold() {
			s := "\x00\x00" + first.bytes + second.bytes
			wantReadFields(t, s, []impl.Field{first.f, second.f})
			for size := range len(s) {
				switch size {
				case 2:
					wantReadFields(t, s[:size], nil)
				case 2 + len(first.bytes):
					wantReadFields(t, s[:size], []impl.Field{first.f})
				default:
					wantNoReadFields(t, s[:size], "cut off")
				}
			}
		}
	}
}

func TestReadFieldsWithBytesBehind(t *testing.T) {
	for _, x := range someTold() {
		for b := range 256 {
			behind := string([]byte{byte(b)})
			if b >= 0xc0 && b < 0xd0 {
				f, _ := impl.StaticField(b - 0xc0)
				wantReadFields(t, "\x00\x00"+x.bytes+behind, []impl.Field{x.f, f})
				continue
			}
			wantNoReadFields(t, "\x00\x00"+x.bytes+behind, "a byte behind")
			wantNoReadFields(t, "\x00\x00"+x.bytes+behind+"\xff", "two bytes behind")
		}
		wantNoReadFields(t, "\x00\x00"+x.bytes+"\x00\x00", "two bytes 0 behind")
		wantNoReadFields(t, "\x00\x00"+x.bytes+"\x00\x00"+x.bytes, "told twice")
	}
}

// Of each first byte just these tell a field, whatever follows.
func TestReadFieldsOfEachFirstByte(t *testing.T) {
	tails := []string{"", "\x00", "\x01a", "\x00\x01a", "a\x00", "a\x01b", "ab\x01c", "abc\x00", "abcd\x00", "abcde\x00", "abcdef\x00", "\x00abcdefg\x00", "\x00\x00", "\x01\x01x"}
	for first := range 256 {
		head, read := string([]byte{byte(first)}), 0
		for _, tail := range tails {
			if l, ok := impl.ReadFields("\x00\x00" + head + tail); ok && len(l) == 1 {
				read++
			}
		}
		want := 0
		switch {
		case first >= 0xc0 && first < 0xd0: // and nothing behind
			want = 1
		case first == 0x50 || first == 0x5d || first == 0x5e: // the empty value makes a field of the table
			want = 1
		case first == 0x51 || first == 0x52 || first == 0x55 || first == 0x57 || first >= 0x5a && first < 0x5d:
			want = 2
		case first == 0x5f:
			want = 2
		case first == 0x21:
			want = 2
		case first > 0x21 && first <= 0x27:
			want = 1
		}
		if read != want {
			t.Errorf("%x: %d times, not %d", first, read, want)
		}
	}
}

func TestReadFieldsToldInAnotherWay(t *testing.T) {
	for _, c := range []struct{ why, bytes string }{
		{"a place that is not there", "d0"},
		{"a place that is not there", "d1"},
		{"a place that is not there", "fe"},
		{"a place that is not there", "ff00"},
		{"a place that is not there", "ff01"},
		{"a place that is not there", "ff80808001"},
		{"a place that is not there", "ff8192ebdc03"},
		{"a place that is cut off", "ff"},
		{"a place that is too long", "ff808080808000"},
		{"a name's place that is not there", "5f01 00"},
		{"a name's place that is not there", "5f01 01 61"},
		{"a name's place that is not there", "5f7f 01 61"},
		{"a name's place that is not there", "5f8001 01 61"},
		{"a name's later place", "53 01 78"},
		{"a name's later place", "54 01 78"},
		{"a name's later place", "56 01 78"},
		{"a name's later place", "58 01 78"},
		{"a name's later place", "59 01 78"},
		{"a field by its name's place", "50 00"},
		{"a field by its name's place", "51 01 2f"},
		{"a field by its name's place", "52 07 434f4e4e454354"},
		{"a field by its name's place", "52 03 474554"},
		{"a field by its own place and value", "53 03 474554"},
		{"a field by its name's place", "52 04 504f5354"},
		{"a field by its own place and value", "54 04 504f5354"},
		{"a field by its name's place", "57 03 353033"},
		{"a field by its own place and value", "59 03 353033"},
		{"a field by its name's place", "5c 01 30"},
		{"a field by its name's place", "5d 00"},
		{"a field by its name's place", "5f00 03 2a2f2a"},
		{"a field written out", "25 3a70617468 01 2f"},
		{"a field written out", "2700 3a6d6574686f64 03 474554"},
		{"a field written out", "24 64617465 00"},
		{"a field written out", "26 616363657074 03 2a2f2a"},
		{"a name of the table written out", "25 3a70617468 02 2f78"},
		{"a name of the table written out", "2700 3a6d6574686f64 03 505554"},
		{"a name of the table written out", "24 64617465 01 31"},
		{"a name of the table written out", "26 616363657074 00"},
		{"needless bytes of a name's place", "5f8000 01 61"},
		{"needless bytes of a name's place", "5f808000 01 61"},
		{"needless bytes of a name's place", "5f80808000 01 61"},
		{"needless bytes of a name's place", "5f8080808000 01 61"},
		{"needless bytes of a name's length", "278000 61626364656667 01 31"},
		{"needless bytes of a name's length", "27808000 61626364656667 01 31"},
		{"needless bytes of a name's length", "2780808000 61626364656667 01 31"},
		{"needless bytes of a name's length", "278080808000 61626364656667 01 31"},
		{"needless bytes of a name's length", "278100 6162636465666768 01 31"},
		{"a name's length with too many bytes", "27808080808000 61626364656667 01 31"},
		{"no name", "20 01 31"},
		{"no name", "20 00"},
		{"a name of which bytes lack", "23 6162"},
		{"a name of which bytes lack", "2701 61626364656667"},
		{"a name that is longer than a number may be", "278292ebdc03 61"},
		{"a name without a value", "22 6162"},
		{"a value of which bytes lack", "22 6162 02 63"},
		{"a value of which bytes lack", "51 7f"},
		{"a value of which bytes lack", "51 7f00"},
		{"a value that is longer than a number may be", "51 7f8292ebdc03"},
		{"a name that is not good", "21 41 00"},
		{"a name that is not good", "22 613a 00"},
		{"a name that is not good", "22 6120 01 63"},
		{"a name that is not good", "21 00 00"},
		{"a value that is not good", "21 61 01 1f"},
		{"a value that is not good", "51 01 7f"},
		{"a value that is not good", "51 02 2f00"},
		{"a value that is not good", "51 01 ff"},
		{"a length of a name with a bit above", "29 61 00"},
		{"a length of a name with a bit above", "2a 6162 01 63"},
		{"a length of a name with a bit above", "31 61 00"},
		{"a length of a name with a bit above", "61 61 00"},
		{"a length of a name with a bit above", "a1 61 00"},
		{"a length of a name without its bit", "01 61 00"},
		{"a length of a value with a bit above", "21 61 81 63"},
		{"a length of a value with a bit above", "21 61 80"},
		{"a length of a value with a bit above", "51 82 2f78"},
		{"a name's place with a bit above", "71 02 2f78"},
		{"a name's place with a bit above", "d1 02 2f78"},
		{"a name's place without a bit", "41 02 2f78"},
		{"a name's place without a bit", "11 02 2f78"},
		{"a place without a bit", "81"},
		{"a place without a bit", "41"},
	} {
		s := unhex(c.bytes)
		wantNoReadFields(t, "\x00\x00"+s, c.why)
		wantNoReadFields(t, "\x00\x00\xc1"+s, c.why)
		wantNoReadFields(t, "\x00\x00"+s+"\xc1", c.why)
		wantNoReadFields(t, "\x00\x00\x21a\x00"+s+"\x21a\x00", c.why)
	}
}

// A name or a value of 101 bytes can be told, but is not good; a value's length in more than a byte is never good.
func TestReadFieldsOfTextsTooLong(t *testing.T) {
	for _, size := range []int{101, 102, 126, 127, 128, 300, 5000} {
		text := letters(size)
		wantNoReadFields(t, "\x00\x00"+prefixElsewhere(size, 3, 32)+text+"\x00", "name")
		for _, head := range []string{"\x51", "\x5f\x00", "\x21a"} {
			wantNoReadFields(t, "\x00\x00"+head+prefixElsewhere(size, 7, 0)+text, "value")
		}
	}
	for _, size := range []int{100, 101} {
		wantNoReadFields(t, "\x00\x00\x51\x7f\x80\x00"+letters(127), "value")
		wantNoReadFields(t, "\x00\x00\x51\x7f"+letters(size), "value")
	}
}

func TestReadFieldsOfThirtyAndMore(t *testing.T) {
	for _, x := range someTold() {
		for n := 28; n <= 34; n++ {
			s := "\x00\x00" + strings.Repeat(x.bytes, n)
			if n > 30 {
				wantNoReadFields(t, s, "more than thirty")
				continue
			}
			wantReadFields(t, s, repeated(x.f, n))
			wantNoReadFields(t, s+"\xff", "a byte behind")
		}
		wantNoReadFields(t, "\x00\x00"+strings.Repeat(x.bytes, 3000), "many")
	}
}
