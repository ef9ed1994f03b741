package tests

import (
	"slices"
	"strings"
	"testing"

	"loop.example/g00206/impl"
)

func wantFeed(t *testing.T, pieces []string, want []impl.Capsule, left int) {
	t.Helper()
	kept := slices.Clone(pieces)
	if l, got, ok := impl.FeedCapsules(pieces); !slices.Equal(l, want) || got != left || !ok {
		t.Errorf("%x: %v %d %v, not %v %d", pieces, l, got, ok, want, left)
	}
	if !slices.Equal(pieces, kept) {
		t.Errorf("%x became %x", kept, pieces)
	}
}

func wantNoFeed(t *testing.T, pieces []string, why string) {
	t.Helper()
	kept := slices.Clone(pieces)
	if l, left, ok := impl.FeedCapsules(pieces); len(l) != 0 || left != 0 || ok {
		t.Errorf("%s: %.200x: %v %d %v", why, pieces, l, left, ok)
	}
	if !slices.Equal(pieces, kept) {
		t.Errorf("%x became %x", kept, pieces)
	}
}

// inPieces cuts s into pieces of so many bytes.
func inPieces(s string, size int) []string {
	var l []string
	for len(s) > size {
		l = append(l, s[:size])
		s = s[size:]
	}
	return append(l, s)
}

// withEmpty lays an empty piece ahead of each piece and behind the last one.
func withEmpty(pieces []string) []string {
	l := []string{""}
	for _, x := range pieces {
		l = append(l, x, "")
	}
	return l
}

// cuttings are some ways to hand over s in at most 60 pieces.
func cuttings(s string) [][]string {
	var l [][]string
	least := (len(s) + 59) / 60
	for _, size := range []int{1, 2, 3, 7, least, len(s)/2 + 1, len(s)} {
		if size < 1 || size < least {
			continue
		}
		pieces := inPieces(s, size)
		l = append(l, pieces)
		if len(pieces) < 30 {
			l = append(l, withEmpty(pieces))
		}
	}
	return append(l, []string{"", s, "", ""})
}

func TestFeedCapsulesOfNoPiece(t *testing.T) {
	wantFeed(t, nil, nil, 0)
	wantFeed(t, []string{}, nil, 0)
	wantFeed(t, []string{""}, nil, 0)
	wantFeed(t, []string{"", "", ""}, nil, 0)
}

func TestFeedCapsulesKnown(t *testing.T) {
	two := capsules("0:hi 70:x")
	for _, c := range []struct {
		pieces string
		want   []impl.Capsule
		left   int
	}{
		{"00", nil, 1},
		{"00 02", nil, 2},
		{"0002", nil, 2},
		{"0002 68", nil, 3},
		{"00026869", two[:1], 0},
		{"00 02 68 69", two[:1], 0},
		{"00026869 40", two[:1], 1},
		{"00026869 4046", two[:1], 2},
		{"00026869 40 46", two[:1], 2},
		{"00026869 40 46 01", two[:1], 3},
		{"00026869 40 46 01 78", two, 0},
		{"0002 6869404601 78", two, 0},
		{"000268 694046 0178", two, 0},
		{"000268 694046 017800", two, 1},
		{"0002686940460178 c0", two, 1},
		{"0002686940460178 c0 00000000000000", two, 8},
		{"0002686940460178 c0 000000000000", two, 7},
		{"0002686940460178 00 40", two, 2},
		{"0002686940460178 00 40c8", two, 3},
		{"0002686940460178 00 40c8 61 62 63", two, 6},
	} {
		var pieces []string
		for x := range strings.FieldsSeq(c.pieces) {
			pieces = append(pieces, unhex(x))
		}
		wantFeed(t, pieces, c.want, c.left)
		wantFeed(t, withEmpty(pieces), c.want, c.left)
	}
}

// Each way to cut a text tells the same.
func TestFeedCapsulesCutInEachWay(t *testing.T) {
	for _, hex := range []string{
		"00 02 6869 4046 01 78 01 00 00",
		"4000 4001 61 8001 02",
		"c000000000000001 01 61 02",
		"00 00 00 01 00 00 02 00 00 01 05",
		"01 8000 0002 4040 05 03 6162",
	} {
		s := unhex(hex)
		want, size, ok := capsulesRead(s)
		if !ok {
			t.Fatal(hex)
		}
		for cuts := range 1 << (len(s) - 1) {
			var pieces []string
			from := 0
			for at := 1; at < len(s); at++ {
				if cuts>>(at-1)&1 == 1 {
					pieces = append(pieces, s[from:at])
					from = at
				}
			}
			wantFeed(t, append(pieces, s[from:]), want, len(s)-size)
		}
	}
}

func TestFeedCapsulesInTwoPieces(t *testing.T) {
	for _, a := range someCapsules() {
		for _, b := range someCapsules() {
			l := []impl.Capsule{a, b}
			s := capsulesElsewhere(l)
			for at := range len(s) + 1 {
				wantFeed(t, []string{s[:at], s[at:]}, l, 0)
				want, size := aheadOf(l, at)
				wantFeed(t, []string{s[:at]}, want, at-size)
				wantFeed(t, []string{s[:at/2], s[at/2 : at]}, want, at-size)
			}
		}
	}
}

// A length that is too great is told with the piece that has its last byte, whatever else comes or has come.
func TestFeedCapsulesOfLengthsTooGreat(t *testing.T) {
	wantFeed(t, []string{"\x00", "\x40"}, nil, 2)
	wantNoFeed(t, []string{"\x00", "\x40", "\xc9"}, "a length in two pieces")
	wantNoFeed(t, []string{"\x00\x40", "\xc9"}, "a length in two pieces")
	wantNoFeed(t, []string{"\x00\x40\xc9"}, "a length in one piece")
	wantNoFeed(t, []string{"\x00\x40\xc9", "", ""}, "empty pieces behind")
	wantNoFeed(t, []string{"\x00\x40", "\xc9", "abc"}, "more behind")
	wantNoFeed(t, []string{"\x00\x40", "\xc9", letters(201)}, "data behind")
	wantNoFeed(t, []string{"\x00\x40", "\xc9", letters(201), "\x00\x00"}, "a capsule behind")
	wantNoFeed(t, []string{"\x00\x00", "\x00\x40\xc9", "\x00\x00"}, "capsules ahead and behind")
	wantNoFeed(t, inPieces("\x00\x01a\x02\xff\xff\xff\xff\xff\xff\xff\xff", 1), "a length in eight pieces")
	wantFeed(t, inPieces("\x00\x01a\x02\xff\xff\xff\xff\xff\xff\xff", 1), capsules("0:a"), 8)
	wantFeed(t, []string{"\x00\x40", "\xc8", letters(199)}, nil, 202)
	wantFeed(t, []string{"\x00\x40", "\xc8", letters(199), "x", "\x05"}, []impl.Capsule{capsule(0, letters(199)+"x")}, 1)
}

func TestFeedCapsulesOfThirtyAndMore(t *testing.T) {
	one := capsule(0, "a")
	thirty := slices.Repeat([]impl.Capsule{one}, 30)
	pieces := slices.Repeat([]string{"\x00\x01a"}, 30)
	wantFeed(t, pieces, thirty, 0)
	for size := range 3 {
		wantFeed(t, append(slices.Clone(pieces), "\x00\x01a"[:size]), thirty, size)
	}
	wantNoFeed(t, append(slices.Clone(pieces), "\x00\x01a"), "thirty-one")
	wantNoFeed(t, append(slices.Clone(pieces), "\x00", "\x01", "a"), "thirty-one")
	wantNoFeed(t, append(slices.Clone(pieces), "\x00\x01", "a", "", "\x00"), "thirty-one")
	wantNoFeed(t, append(slices.Clone(pieces), "\x00\x40", "\xc9"), "thirty and a length too great")
	all := strings.Repeat("\x00\x01a", 30)
	wantFeed(t, []string{all}, thirty, 0)
	wantFeed(t, []string{all[:45], all[45:]}, thirty, 0)
	wantFeed(t, []string{all[:44], all[44:] + "\x00"}, thirty, 1)
	wantNoFeed(t, []string{all[:44], all[44:] + "\x00\x00"}, "thirty-one")
	wantNoFeed(t, []string{all, all}, "sixty")
	for _, cut := range []int{1, 15, 29, 30} { // so many in a first piece, the others in a second one
		wantFeed(t, []string{all[:3*cut], all[3*cut:]}, thirty, 0)
		wantNoFeed(t, []string{all[:3*cut], all[3*cut:], "\x05\x00"}, "thirty-one")
		wantNoFeed(t, []string{all[:3*cut], all[3*cut:] + "\x05\x00"}, "thirty-one")
	}
}

func TestFeedCapsulesOfSixtyPiecesAndMore(t *testing.T) {
	for n := 58; n <= 63; n++ {
		empty := slices.Repeat([]string{""}, n)
		bytes := slices.Repeat([]string{"\x00"}, n)
		last := slices.Concat(empty[:n-1], []string{"\x01\x00"})
		first := slices.Concat([]string{"\x01\x00\x05"}, empty[:n-1])
		if n > 60 {
			wantNoFeed(t, empty, "many empty pieces")
			wantNoFeed(t, bytes, "many pieces")
			wantNoFeed(t, last, "many pieces")
			wantNoFeed(t, first, "many pieces")
			continue
		}
		wantFeed(t, empty, nil, 0)
		wantFeed(t, bytes, slices.Repeat([]impl.Capsule{{}}, n/2), n%2)
		wantFeed(t, last, capsules("1:"), 0)
		wantFeed(t, first, capsules("1:"), 1)
	}
	wantNoFeed(t, slices.Repeat([]string{""}, 6000), "very many empty pieces")
}

func TestFeedCapsulesOfMostBytes(t *testing.T) {
	l := append(manyCapsules(7, 200), capsule(2, letters(76)))
	s := capsulesElsewhere(l)
	sixty := inPieces(s, 25)
	if len(s) != 1500 || len(sixty) != 60 {
		t.Fatal(len(s), len(sixty))
	}
	wantFeed(t, sixty, l, 0)
	for at := range sixty {
		more := slices.Clone(sixty)
		more[at] += "\x00"
		wantNoFeed(t, more, "a byte too many")
		less := slices.Clone(sixty)
		less[at] = ""
		got, left, ok := impl.FeedCapsules(less)
		want, size, wantOk := capsulesRead(strings.Join(less, ""))
		if !wantOk {
			want, size = nil, 1475
		}
		if !slices.Equal(got, want) || left != 1475-size || ok != wantOk {
			t.Errorf("without %d: %v %d %v, not %v %d %v", at, got, left, ok, want, 1475-size, wantOk)
		}
	}
	wantFeed(t, []string{s}, l, 0)
	wantFeed(t, []string{"", s, ""}, l, 0)
	wantNoFeed(t, []string{s, "\x00"}, "a byte too many")
	wantNoFeed(t, []string{"\x00", s}, "a byte too many")
	wantNoFeed(t, []string{s + "\x00"}, "a byte too many")
	wantNoFeed(t, []string{s, "", "", "\x00", ""}, "a byte too many")
	wantNoFeed(t, []string{s, s}, "twice the bytes")
	wantNoFeed(t, []string{s[:751], s[:750]}, "a byte too many")
	wantFeed(t, []string{s[:750], s[750:]}, l, 0)
	wantFeed(t, append(inPieces(s[:1475], 30), s[1475:]), l, 0)
	wantNoFeed(t, []string{strings.Repeat("\x00", 30000)}, "many bytes")
	// what was whole long ahead does not help
	wantNoFeed(t, []string{"\x00\x00", letters(1499)}, "a byte too many")
}
