package tests

import (
	"slices"
	"strings"
	"testing"

	"loop.example/g00206/impl"
)

func wantTake(t *testing.T, s impl.Inflow, at int, data string, fin bool, want impl.Inflow) impl.Inflow {
	t.Helper()
	kept := keptInflow(s)
	got, code := impl.TakePiece(s, at, data, fin)
	if !sameInflow(got, want) || code != impl.StreamOk {
		t.Errorf("%+v takes %q at %d, %v: %+v %d, not %+v", s, data, at, fin, got, code, want)
	}
	wantKeptInflow(t, "TakePiece", s, kept)
	return got
}

// wantNoTake looks for the inflow as it was, beside the code.
func wantNoTake(t *testing.T, s impl.Inflow, at int, data string, fin bool, want int, why string) {
	t.Helper()
	kept := keptInflow(s)
	if got, code := impl.TakePiece(s, at, data, fin); !sameInflow(got, s) || code != want {
		t.Errorf("%s: %+v takes %q at %d, %v: %+v %d, not %d", why, s, data, at, fin, got, code, want)
	}
	wantKeptInflow(t, "TakePiece", s, kept)
}

func wantBadTake(t *testing.T, s impl.Inflow, at int, data string, fin bool, why string) {
	t.Helper()
	kept := keptInflow(s)
	if got, code := impl.TakePiece(s, at, data, fin); !sameInflow(got, impl.Inflow{}) || code != impl.StreamBad {
		t.Errorf("%s: %+v takes %.20q at %d, %v: %+v %d", why, s, data, at, fin, got, code)
	}
	wantKeptInflow(t, "TakePiece", s, kept)
}

// taking is of what was sent as abcdefghijklmnopqrst.
type taking struct {
	why    string
	read   int
	before string
	at     int
	data   string
	behind string
}

func wantTakings(t *testing.T, l []taking) {
	t.Helper()
	for _, c := range l {
		if len(c.data) > 0 && "abcdefghijklmnopqrst"[c.at:c.at+len(c.data)] != c.data {
			t.Fatal(c.why)
		}
		s := flow(20, c.read, -1, c.before)
		wantInflow(t, s, c.why)
		got := wantTake(t, s, c.at, c.data, false, flow(20, c.read, -1, c.behind))
		wantInflow(t, got, c.why)
		wantTake(t, got, c.at, c.data, false, got)
		// with a Final that it does not go beyond, it is the same
		wantTake(t, flow(20, c.read, 20, c.before), c.at, c.data, false, flow(20, c.read, 20, c.behind))
	}
}

func TestPiecesAreTaken(t *testing.T) {
	wantTakings(t, []taking{
		{"into nothing, at Read", 0, "", 0, "abc", "0:abc"},
		{"into nothing, behind Read", 0, "", 3, "def", "3:def"},
		{"into nothing, at a Read of 4", 4, "", 4, "ef", "4:ef"},
		{"one byte", 0, "", 9, "j", "9:j"},
		// what was read
		{"all below Read", 4, "6:gh", 1, "bc", "6:gh"},
		{"up to Read", 4, "6:gh", 1, "bcd", "6:gh"},
		{"partly below Read", 4, "7:hi", 1, "bcde", "4:e 7:hi"},
		{"from 0, partly below Read", 4, "", 0, "abcdef", "4:ef"},
		{"partly below Read, to one that lies there", 4, "6:gh", 3, "def", "4:efgh"},
		{"partly below Read, all that lies there", 4, "4:ef 7:h 9:j", 2, "cdefghijkl", "4:efghijkl"},
		{"partly below Read, into one that lies there", 4, "4:efgh", 2, "cdef", "4:efgh"},
		// beside others
		{"ahead of all", 0, "5:fg 9:j", 2, "cd", "2:cd 5:fg 9:j"},
		{"between two", 0, "1:b 9:jk", 3, "def", "1:b 3:def 9:jk"},
		{"behind all", 0, "1:b 5:f", 7, "hij", "1:b 5:f 7:hij"},
		{"a byte between, either side", 0, "1:b 5:f", 3, "d", "1:b 3:d 5:f"},
		// no bytes at all
		{"no bytes, into nothing", 0, "", 0, "", ""},
		{"no bytes, into a gap", 0, "1:b 5:f", 3, "", "1:b 5:f"},
		{"no bytes, where one begins", 0, "1:b 5:f", 5, "", "1:b 5:f"},
		{"no bytes, where one ends", 0, "1:b 5:f", 2, "", "1:b 5:f"},
		{"no bytes, below Read", 4, "5:f", 0, "", "5:f"},
		{"no bytes, at Read", 4, "4:ef", 4, "", "4:ef"},
		{"no bytes, within one", 0, "5:fgh", 6, "", "5:fgh"},
		{"no bytes, at Limit", 0, "5:fgh", 20, "", "5:fgh"},
		// to Limit
		{"up to Limit", 0, "5:f", 17, "rst", "5:f 17:rst"},
		{"all", 0, "5:f", 0, "abcdefghijklmnopqrst", "0:abcdefghijklmnopqrst"},
	})
}

func TestPiecesArePutTogether(t *testing.T) {
	wantTakings(t, []taking{
		// what it touches
		{"it touches the one behind", 0, "5:fg 9:j", 3, "de", "3:defg 9:j"},
		{"it touches the one ahead", 0, "1:b 5:fg", 7, "hi", "1:b 5:fghi"},
		{"it touches the first one alone", 0, "1:b 5:f", 2, "c", "1:bc 5:f"},
		{"it touches the second one alone", 0, "1:b 5:f", 4, "e", "1:b 4:ef"},
		{"it fills a gap", 0, "1:bc 5:fg", 3, "de", "1:bcdefg"},
		{"it fills a gap of a byte", 0, "1:b 3:d 5:f", 2, "c", "1:bcd 5:f"},
		{"it fills the gap at Read", 4, "6:gh 10:k", 4, "ef", "4:efgh 10:k"},
		{"it fills one of two gaps", 0, "1:b 3:d 5:f", 4, "e", "1:b 3:def"},
		// what it overlaps
		{"it overlaps the one behind", 0, "5:fgh", 3, "def", "3:defgh"},
		{"it overlaps the one ahead", 0, "5:fgh", 7, "hij", "5:fghij"},
		{"it overlaps both", 0, "1:bcd 6:ghi", 3, "defgh", "1:bcdefghi"},
		{"it covers one", 0, "5:fg", 3, "defghi", "3:defghi"},
		{"it covers one, from its begin", 0, "5:fg", 5, "fghi", "5:fghi"},
		{"it covers one, to its end", 0, "5:fg", 3, "defg", "3:defg"},
		{"it covers several", 0, "2:c 4:e 6:gh 15:p", 1, "bcdefghi", "1:bcdefghi 15:p"},
		{"it covers several, and touches on either side", 0, "0:a 2:c 4:e 6:gh 9:j 11:l", 1, "bcdefghi", "0:abcdefghij 11:l"},
		{"it covers one and overlaps two", 0, "1:bc 5:f 8:ijk", 2, "cdefghi", "1:bcdefghijk"},
		// taken before
		{"the same again", 0, "1:b 5:fgh 10:k", 5, "fgh", "1:b 5:fgh 10:k"},
		{"within one", 0, "1:b 5:fgh 10:k", 6, "g", "1:b 5:fgh 10:k"},
		{"the begin of one", 0, "5:fgh", 5, "f", "5:fgh"},
		{"the end of one", 0, "5:fgh", 6, "gh", "5:fgh"},
	})
}

func TestPiecesWithFin(t *testing.T) {
	for _, c := range []struct {
		why    string
		read   int
		final  int
		before string
		at     int
		data   string
		end    int
		behind string
	}{
		{"nothing lies there", 0, -1, "", 3, "def", 6, "3:def"},
		{"up to Limit", 0, -1, "", 17, "rst", 20, "17:rst"},
		{"what lies there ends ahead of it", 0, -1, "1:bc", 5, "fg", 7, "1:bc 5:fg"},
		{"what lies there ends where it ends", 0, -1, "1:bc 6:g", 5, "fg", 7, "1:bc 5:fg"},
		{"what lies there is it", 0, -1, "5:fg", 5, "fg", 7, "5:fg"},
		{"it ends at Read", 4, -1, "", 2, "cd", 4, ""},
		{"it ends a byte behind Read", 4, -1, "", 2, "cde", 5, "4:e"},
		{"known, and the same", 0, 7, "", 5, "fg", 7, "5:fg"},
		{"known, and the same, to what lies there", 0, 7, "2:cd", 4, "efg", 7, "2:cdefg"},
		{"known, and the same, up to Limit", 0, 20, "", 17, "rst", 20, "17:rst"},
		{"known, and the same, at Read", 4, 4, "", 2, "cd", 4, ""},
		// no bytes
		{"no bytes, at 0", 0, -1, "", 0, "", 0, ""},
		{"no bytes, at Read", 4, -1, "", 4, "", 4, ""},
		{"no bytes, behind Read", 4, -1, "", 9, "", 9, ""},
		{"no bytes, where the last ends", 0, -1, "2:cd", 4, "", 4, "2:cd"},
		{"no bytes, behind the last", 0, -1, "2:cd", 7, "", 7, "2:cd"},
		{"no bytes, at Limit", 0, -1, "2:cd", 20, "", 20, "2:cd"},
		{"no bytes, at Final", 0, 7, "2:cd", 7, "", 7, "2:cd"},
		{"no bytes, at Final and Read", 4, 4, "", 4, "", 4, ""},
	} {
		got := wantTake(t, flow(20, c.read, c.final, c.before), c.at, c.data, true, flow(20, c.read, c.end, c.behind))
		wantInflow(t, got, c.why)
		wantTake(t, got, c.at, c.data, true, got)
		wantTake(t, got, c.at, c.data, false, got)
	}
}

func TestPiecesBesideFinal(t *testing.T) {
	for _, c := range []struct {
		why   string
		s     impl.Inflow
		at    int
		data  string
		fin   bool
		taken bool
	}{
		// with fin, known and another one
		{"ends a byte ahead", flow(20, 0, 7, ""), 4, "ef", true, false},
		{"ends a byte behind", flow(20, 0, 7, ""), 4, "efgh", true, false},
		{"ends at 0", flow(20, 0, 7, ""), 0, "", true, false},
		{"ends at Limit", flow(20, 0, 7, ""), 20, "", true, false},
		{"ends another 0", flow(20, 0, 0, ""), 0, "a", true, false},
		{"ends there", flow(20, 0, 7, ""), 4, "efg", true, true},
		// with fin, something was read beyond it
		{"ends a byte ahead of Read", flow(20, 4, -1, ""), 1, "bc", true, false},
		{"ends at 0, ahead of Read", flow(20, 4, -1, ""), 0, "", true, false},
		{"ends far ahead of Read", flow(20, 4, -1, "6:g"), 1, "b", true, false},
		{"ends at Read", flow(20, 4, -1, ""), 1, "bcd", true, true},
		// with fin, something lies beyond it
		{"one lies behind it", flow(20, 0, -1, "5:f"), 3, "d", true, false},
		{"one begins where it ends", flow(20, 0, -1, "5:f"), 3, "de", true, false},
		{"one ends a byte behind it", flow(20, 0, -1, "5:fg"), 3, "def", true, false},
		{"the last lies behind it", flow(20, 0, -1, "1:b 9:j"), 0, "abcd", true, false},
		{"it ends at Read, and one lies there", flow(20, 4, -1, "4:e"), 2, "cd", true, false},
		{"no bytes, and one begins there", flow(20, 0, -1, "5:f"), 5, "", true, false},
		{"one ends where it ends", flow(20, 0, -1, "5:f"), 3, "def", true, true},
		// without, known, and it goes beyond it
		{"goes a byte beyond", flow(20, 0, 7, ""), 5, "fgh", false, false},
		{"lies beyond", flow(20, 0, 7, ""), 8, "i", false, false},
		{"lies beyond, at Final", flow(20, 0, 7, ""), 7, "h", false, false},
		{"no bytes, beyond", flow(20, 0, 7, ""), 8, "", false, false},
		{"beyond a Final of 0", flow(20, 0, 0, ""), 0, "a", false, false},
		{"beyond, what is done", flow(20, 4, 4, ""), 4, "e", false, false},
		{"up to Final", flow(20, 0, 7, ""), 5, "fg", false, true},
		{"ahead of Final", flow(20, 0, 7, ""), 5, "f", false, true},
		{"no bytes, at Final", flow(20, 0, 7, ""), 7, "", false, true},
	} {
		wantInflow(t, c.s, c.why)
		if !c.taken {
			wantNoTake(t, c.s, c.at, c.data, c.fin, impl.StreamFinal, c.why)
		} else if _, code := impl.TakePiece(c.s, c.at, c.data, c.fin); code != impl.StreamOk {
			t.Errorf("%s: %d", c.why, code)
		}
	}
}

func TestPiecesAboveLimit(t *testing.T) {
	for _, fin := range []bool{false, true} {
		for _, c := range []struct {
			limit, at int
			data      string
		}{
			{10, 10, "k"},
			{10, 9, "jk"},
			{10, 0, "abcdefghijk"},
			{10, 11, ""},
			{10, 11, "l"},
			{0, 0, "a"},
			{0, 1, ""},
			{mostBuffer, mostBuffer, "x"},
			{mostBuffer, mostBuffer - 1499, letters(1500)},
			{mostBuffer, mostBuffer + 1, ""},
			{10, 1000000, ""},
			{10, mostVarint, ""},
			{10, mostVarint - 1, "yz"},
			{10, mostVarint, letters(1500)},
			{mostBuffer, mostVarint, letters(1500)},
		} {
			wantNoTake(t, flow(c.limit, 0, -1, ""), c.at, c.data, fin, impl.StreamLimit, "above Limit")
		}
		wantNoTake(t, flow(10, 4, -1, "5:fg"), 8, "ijk", fin, impl.StreamLimit, "above Limit")
		final := map[bool]int{true: mostBuffer, false: -1}[fin]
		all := letters(1500)
		wantTake(t, flow(mostBuffer, 0, -1, ""), mostBuffer-1500, all, fin, impl.Inflow{Limit: mostBuffer, Final: final, Pieces: []impl.Piece{{At: 2500, Data: all}}})
		wantTake(t, flow(mostBuffer, 0, -1, ""), mostBuffer, "", fin, flow(mostBuffer, 0, final, ""))
	}
}

func TestPiecesThatAreBad(t *testing.T) {
	for _, s := range []impl.Inflow{{}, flow(0, 0, -1, ""), flow(20, 0, -1, "5:fg"), flow(20, 4, 9, "5:fg"), flow(mostBuffer, 0, -1, ""), fullFlow()} {
		for _, fin := range []bool{false, true} {
			for _, at := range []int{-1, -2, mostVarint + 1, mostVarint + 2, minInt, minInt + 1, maxInt - 1, maxInt} {
				for _, data := range []string{"", "a", "fg", letters(1500), letters(1501)} {
					wantBadTake(t, s, at, data, fin, "at")
				}
			}
			for _, at := range []int{-1, 0, 5, 3000, mostVarint} {
				wantBadTake(t, s, at, letters(1501), fin, "too many bytes")
				wantBadTake(t, s, at, letters(4000), fin, "too many bytes")
			}
		}
	}
	wantTake(t, flow(1500, 0, -1, ""), 0, letters(1500), false, impl.Inflow{Limit: 1500, Final: -1, Pieces: []impl.Piece{{At: 0, Data: letters(1500)}}})
}

func TestPiecesThatClash(t *testing.T) {
	s := flow(20, 4, -1, "5:fgh 10:kl 14:o")
	for _, fin := range []bool{false, true} {
		for _, c := range []struct {
			why  string
			at   int
			data string
			end  int
		}{
			{"the first byte", 5, "Xghijklmno", 15},
			{"the last byte", 10, "klmnX", 15},
			{"a byte in the middle", 5, "fXhijklmno", 15},
			{"the last byte of the first", 5, "fgXijklmno", 15},
			{"in the second one", 5, "fghijXlmno", 15},
			{"in the second one, its end", 7, "hijkXmno", 15},
			{"each of them", 5, "XXXXXXXXXX", 15},
			{"a byte that hangs over", 14, "Xp", 16},
			{"one is the other's case", 14, "O", 15},
			{"a byte of noughts", 14, "\x00", 15},
		} {
			if fin && c.end < 15 {
				continue
			}
			wantNoTake(t, s, c.at, c.data, fin, impl.StreamClash, c.why)
			known := keptInflow(s)
			known.Final = 17
			if !fin {
				wantNoTake(t, known, c.at, c.data, fin, impl.StreamClash, c.why)
			}
		}
	}
	for _, c := range []struct {
		why  string
		at   int
		data string
	}{
		{"the end of what comes", 3, "deX"},
		{"one byte", 6, "X"},
		{"the one in the middle alone", 9, "jXlm"},
		{"behind what was read", 0, "abcdeX"},
	} {
		wantNoTake(t, s, c.at, c.data, false, impl.StreamClash, c.why)
	}
}

// What was read is no clash, and what lies in the gaps is none.
func TestPiecesThatAreNoClash(t *testing.T) {
	s := flow(20, 4, -1, "5:fgh 10:kl")
	wantTake(t, s, 0, "XYZW", false, s)
	wantTake(t, s, 0, "XYZWefg", false, flow(20, 4, -1, "4:efgh 10:kl"))
	wantTake(t, s, 3, "XE", false, flow(20, 4, -1, "4:Efgh 10:kl"))
	wantTake(t, s, 7, "hIJk", false, flow(20, 4, -1, "5:fghIJkl"))
	wantTake(t, s, 8, "IJ", false, flow(20, 4, -1, "5:fghIJkl"))
	wantTake(t, s, 12, "MN", false, flow(20, 4, -1, "5:fgh 10:klMN"))
	wantTake(t, s, 2, "XYE", false, flow(20, 4, -1, "4:Efgh 10:kl"))
	wantTake(t, flow(20, 4, -1, ""), 0, "XYZW", true, flow(20, 4, 4, ""))
}

func TestPiecesThatAreTooMany(t *testing.T) {
	s := fullFlow()
	for _, c := range []struct {
		at   int
		data string
	}{{91, "x"}, {199, "x"}, {100, letters(100)}, {95, "xyz"}} {
		wantNoTake(t, s, c.at, c.data, false, impl.StreamPieces, "one more")
		wantNoTake(t, s, c.at, c.data, true, impl.StreamPieces, "one more, with fin")
		known := keptInflow(s)
		known.Final = 200
		wantNoTake(t, known, c.at, c.data, false, impl.StreamPieces, "one more, Final known")
	}
	ahead := impl.Inflow{Limit: 200, Read: 5, Final: -1, Pieces: manyPieces(40, 11)}
	wantNoTake(t, ahead, 6, "x", false, impl.StreamPieces, "one more, ahead")
	wantNoTake(t, ahead, 6, "xyz", false, impl.StreamPieces, "one more, ahead")
	wantNoTake(t, ahead, 5, "x", false, impl.StreamPieces, "one more, at Read")
	wantNoTake(t, ahead, 2, letters(8), false, impl.StreamPieces, "one more, partly below Read")
	gap := impl.Inflow{Limit: 200, Final: -1, Pieces: slices.Concat(manyPieces(20, 11), manyPieces(20, 100))}
	wantNoTake(t, gap, 60, "x", false, impl.StreamPieces, "one more, between")
	wantNoTake(t, gap, 51, letters(48), false, impl.StreamPieces, "one more, between")
}

// Where as many pieces lie there as may, what makes no further one is taken.
func TestPiecesBesideFortyOthers(t *testing.T) {
	s := fullFlow()
	with := func(final int, lists ...[]impl.Piece) impl.Inflow {
		return impl.Inflow{Limit: 200, Read: 10, Final: final, Pieces: slices.Concat(lists...)}
	}
	wantTake(t, with(-1, manyPieces(39, 11)), 89, "m", false, s)
	wantTake(t, with(-1, manyPieces(39, 13)), 11, "m", false, s)
	wantTake(t, with(-1, manyPieces(20, 11), manyPieces(19, 53)), 51, "m", false, s)
	wantTake(t, with(-1, manyPieces(39, 11)), 89, "m", true, with(90, s.Pieces))
	// taken before
	wantTake(t, s, 11, "m", false, s)
	wantTake(t, s, 89, "m", false, s)
	wantTake(t, s, 89, "m", true, with(90, s.Pieces))
	// no bytes
	wantTake(t, s, 150, "", false, s)
	wantTake(t, s, 150, "", true, with(150, s.Pieces))
	// what was read
	wantTake(t, s, 5, "abc", false, s)
	wantTake(t, s, 5, "abcde", false, s)
	// it touches one, or fills a gap
	wantTake(t, s, 90, "n", false, with(-1, s.Pieces[:39], pieces("89:mn")))
	wantTake(t, s, 90, "n", true, with(91, s.Pieces[:39], pieces("89:mn")))
	wantTake(t, s, 10, "l", false, with(-1, pieces("10:lm"), s.Pieces[1:]))
	wantTake(t, s, 12, "n", false, with(-1, pieces("11:mnm"), s.Pieces[2:]))
	wantTake(t, s, 50, "n", false, with(-1, s.Pieces[:19], pieces("49:mnm"), s.Pieces[21:]))
	wantTake(t, s, 88, "n", false, with(-1, s.Pieces[:38], pieces("87:mnm")))
	wantTake(t, s, 89, "mnop", false, with(-1, s.Pieces[:39], pieces("89:mnop")))
	wantTake(t, s, 10, strings.Repeat("m", 120), false, with(-1, pieces("10:"+strings.Repeat("m", 120))))
}

// Of two codes that hold the first one of the order is told.
func TestTakesTellTheFirstCode(t *testing.T) {
	s := flow(10, 4, -1, "5:fg")
	known := flow(10, 4, 7, "5:fg")
	full := fullFlow()
	ended := keptInflow(full)
	ended.Final = 100
	long := letters(1501)

	wantBadTake(t, s, 8, long, false, "bad, and above Limit")
	wantBadTake(t, s, mostVarint+1, "a", false, "bad, and above Limit")
	wantBadTake(t, known, 0, long, true, "bad, and another Final")
	wantBadTake(t, s, -1, "bcdeXX", true, "bad, and a clash")
	wantBadTake(t, s, -1, "", true, "bad, and Read lies beyond")
	wantBadTake(t, full, mostVarint+1, "x", false, "bad, and too many")
	wantBadTake(t, flow(10, 11, -1, ""), 20, "a", true, "not good, and above Limit")

	wantNoTake(t, known, 8, "ijk", false, impl.StreamLimit, "above Limit, and beyond Final")
	wantNoTake(t, known, 8, "ijk", true, impl.StreamLimit, "above Limit, and another Final")
	wantNoTake(t, known, 11, "", true, impl.StreamLimit, "above Limit, and another Final")
	wantNoTake(t, s, 5, "XXXXXX", false, impl.StreamLimit, "above Limit, and a clash")
	wantNoTake(t, full, 100, letters(101), false, impl.StreamLimit, "above Limit, and too many")
	wantNoTake(t, ended, 100, letters(101), true, impl.StreamLimit, "above Limit, another Final, and too many")

	wantNoTake(t, known, 5, "XXXX", false, impl.StreamFinal, "beyond Final, and a clash")
	wantNoTake(t, known, 5, "XXXX", true, impl.StreamFinal, "another Final, and a clash")
	wantNoTake(t, known, 5, "X", true, impl.StreamFinal, "another Final, and a clash")
	wantNoTake(t, s, 5, "X", true, impl.StreamFinal, "one lies beyond, and a clash")
	wantNoTake(t, ended, 98, "xyz", false, impl.StreamFinal, "beyond Final, and too many")
	wantNoTake(t, ended, 98, "x", true, impl.StreamFinal, "another Final, and too many")
	ahead := impl.Inflow{Limit: 200, Read: 5, Final: -1, Pieces: manyPieces(40, 11)}
	wantNoTake(t, ahead, 6, "x", true, impl.StreamFinal, "some lie beyond, and too many")

	// One that clashes overlaps, so that it makes no further piece.
	wantNoTake(t, full, 89, "X", false, impl.StreamClash, "a clash")
	wantNoTake(t, full, 88, "xX", true, impl.StreamClash, "a clash")
	wantNoTake(t, full, 89, "Xxx", false, impl.StreamClash, "a clash")
	wantNoTake(t, ended, 98, "x", false, impl.StreamPieces, "too many")
}
