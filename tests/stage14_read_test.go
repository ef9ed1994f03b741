package tests

import (
	"slices"
	"testing"

	"loop.example/g00206/impl"
)

func wantSome(t *testing.T, s impl.Inflow, most int, text string, want impl.Inflow) impl.Inflow {
	t.Helper()
	kept := keptInflow(s)
	got, read, ok := impl.ReadSome(s, most)
	if !sameInflow(got, want) || read != text || !ok {
		t.Errorf("%+v read up to %d: %+v %q %v, not %+v %q", s, most, got, read, ok, want, text)
	}
	wantKeptInflow(t, "ReadSome", s, kept)
	return got
}

func wantNoRead(t *testing.T, s impl.Inflow, most int, why string) {
	t.Helper()
	if got, read, ok := impl.ReadSome(s, most); !sameInflow(got, impl.Inflow{}) || read != "" || ok {
		t.Errorf("%s: %+v read up to %d: %+v %q %v", why, s, most, got, read, ok)
	}
}

func TestReadSome(t *testing.T) {
	for _, c := range []struct {
		why    string
		before impl.Inflow
		most   int
		text   string
		behind impl.Inflow
	}{
		{"none", flow(20, 4, -1, "4:efg 9:j"), 0, "", flow(20, 4, -1, "4:efg 9:j")},
		{"one", flow(20, 4, -1, "4:efg 9:j"), 1, "e", flow(20, 5, -1, "5:fg 9:j")},
		{"fewer", flow(20, 4, -1, "4:efg 9:j"), 2, "ef", flow(20, 6, -1, "6:g 9:j")},
		{"just these", flow(20, 4, -1, "4:efg 9:j"), 3, "efg", flow(20, 7, -1, "9:j")},
		{"more", flow(20, 4, -1, "4:efg 9:j"), 4, "efg", flow(20, 7, -1, "9:j")},
		{"many more", flow(20, 4, -1, "4:efg 9:j"), mostBuffer, "efg", flow(20, 7, -1, "9:j")},
		{"from 0", flow(20, 0, -1, "0:abc"), 2, "ab", flow(20, 2, -1, "2:c")},
		{"all there is", flow(20, 0, -1, "0:abc"), 3, "abc", flow(20, 3, -1, "")},
		{"all there is, and no more", flow(20, 0, -1, "0:abc"), 9, "abc", flow(20, 3, -1, "")},
		// the next begins a byte behind
		{"up to a gap of a byte", flow(20, 0, -1, "0:ab 3:d"), 9, "ab", flow(20, 2, -1, "3:d")},
		{"into a gap of a byte", flow(20, 0, -1, "0:ab 3:d"), 3, "ab", flow(20, 2, -1, "3:d")},
		// nothing lies at Read
		{"no pieces", flow(20, 4, -1, ""), 9, "", flow(20, 4, -1, "")},
		{"a piece behind", flow(20, 4, -1, "5:fg"), 9, "", flow(20, 4, -1, "5:fg")},
		{"a piece far behind", flow(20, 0, -1, "15:p"), mostBuffer, "", flow(20, 0, -1, "15:p")},
		{"the zero inflow", impl.Inflow{}, 5, "", impl.Inflow{}},
		{"done", flow(20, 4, 4, ""), 5, "", flow(20, 4, 4, "")},
		// Limit and Final stay
		{"up to Final", flow(20, 4, 7, "4:efg"), mostBuffer, "efg", flow(20, 7, 7, "")},
		{"ahead of Final", flow(20, 4, 9, "4:efg"), mostBuffer, "efg", flow(20, 7, 9, "")},
		{"up to Limit", flow(7, 4, -1, "4:efg"), mostBuffer, "efg", flow(7, 7, -1, "")},
		{"up to Limit and Final", flow(7, 4, 7, "4:efg"), 3, "efg", flow(7, 7, 7, "")},
	} {
		wantInflow(t, c.before, c.why)
		wantInflow(t, wantSome(t, c.before, c.most, c.text, c.behind), c.why)
	}
}

func TestReadSomeOfManyPieces(t *testing.T) {
	s := impl.Inflow{Limit: 200, Read: 11, Final: -1, Pieces: manyPieces(40, 11)}
	wantSome(t, s, 9, "m", impl.Inflow{Limit: 200, Read: 12, Final: -1, Pieces: manyPieces(39, 13)})
	wantSome(t, fullFlow(), 9, "", fullFlow())
	all := letters(mostBuffer)
	s = impl.Inflow{Limit: mostBuffer, Final: -1, Pieces: []impl.Piece{{At: 0, Data: all}}}
	wantSome(t, s, mostBuffer, all, flow(mostBuffer, mostBuffer, -1, ""))
	wantSome(t, s, mostBuffer-1, all[:mostBuffer-1], impl.Inflow{Limit: mostBuffer, Read: mostBuffer - 1, Final: -1, Pieces: []impl.Piece{{At: mostBuffer - 1, Data: all[mostBuffer-1:]}}})
	wantSome(t, s, 0, "", s)
}

func TestReadsOfNoNumber(t *testing.T) {
	for _, s := range []impl.Inflow{{}, flow(20, 0, -1, "0:abc"), flow(20, 4, 7, "4:efg"), flow(mostBuffer, 0, -1, ""), fullFlow()} {
		for _, most := range []int{-1, -2, mostBuffer + 1, mostBuffer + 2, minInt, maxInt} {
			wantNoRead(t, s, most, "most")
		}
		for _, most := range []int{0, 1, mostBuffer - 1, mostBuffer} {
			if _, _, ok := impl.ReadSome(s, most); !ok {
				t.Errorf("%+v: not up to %d", s, most)
			}
		}
	}
}

// One byte after the other is what is read at once.
func TestReadByteByByte(t *testing.T) {
	s := flow(20, 0, 12, "0:abcdefgh 9:jkl")
	for n, c := range "abcdefgh" {
		want := flow(20, n+1, 12, "9:jkl")
		if n < 7 {
			want.Pieces = slices.Concat([]impl.Piece{{At: n + 1, Data: "abcdefgh"[n+1:]}}, want.Pieces)
		}
		wantDone(t, s, false)
		s = wantSome(t, s, 1, string(c), want)
	}
	s = wantSome(t, s, 1, "", s)
	s = wantTake(t, s, 8, "i", false, flow(20, 8, 12, "8:ijkl"))
	s = wantSome(t, s, 3, "ijk", flow(20, 11, 12, "11:l"))
	wantDone(t, s, false)
	s = wantSome(t, s, 1, "l", flow(20, 12, 12, ""))
	wantDone(t, s, true)
	wantSome(t, s, 1, "", s)
}
