package tests

import (
	"slices"
	"strconv"
	"strings"
	"testing"

	"loop.example/g00206/impl"
)

const mostBuffer = 4000

// pieces are told as "3:abc 9:xy".
func pieces(text string) []impl.Piece {
	var l []impl.Piece
	for _, word := range strings.Fields(text) {
		at, data, _ := strings.Cut(word, ":")
		n, err := strconv.Atoi(at)
		if err != nil {
			panic(err)
		}
		l = append(l, impl.Piece{At: n, Data: data})
	}
	return l
}

// flow is an inflow with pieces that are told.
func flow(limit, read, final int, text string) impl.Inflow {
	return impl.Inflow{Limit: limit, Read: read, Final: final, Pieces: pieces(text)}
}

// manyPieces have a byte each, and a byte between.
func manyPieces(n, first int) []impl.Piece {
	l := make([]impl.Piece, n)
	for i := range l {
		l[i] = impl.Piece{At: first + 2*i, Data: "m"}
	}
	return l
}

// fullFlow has as many pieces as there may be, at 11, 13 .. 89; nothing lies at Read.
func fullFlow() impl.Inflow {
	return impl.Inflow{Limit: 200, Read: 10, Final: -1, Pieces: manyPieces(40, 11)}
}

// sameInflow holds the empty and the nil list of pieces for the same.
func sameInflow(a, b impl.Inflow) bool {
	return a.Limit == b.Limit && a.Read == b.Read && a.Final == b.Final && slices.Equal(a.Pieces, b.Pieces)
}

func keptInflow(s impl.Inflow) impl.Inflow {
	s.Pieces = slices.Clone(s.Pieces)
	return s
}

func wantKeptInflow(t *testing.T, what string, s, kept impl.Inflow) {
	t.Helper()
	if !sameInflow(s, kept) {
		t.Errorf("%s: %+v became %+v", what, kept, s)
	}
}

func wantInflow(t *testing.T, s impl.Inflow, why string) {
	t.Helper()
	kept := keptInflow(s)
	if !impl.GoodInflow(s) {
		t.Errorf("%s: %+v is not good", why, s)
	}
	wantKeptInflow(t, "GoodInflow", s, kept)
	wantRaise(t, s, s.Limit)
}

// wantNoInflow holds all functions that take an inflow: none of them answers anything of one that is not good.
func wantNoInflow(t *testing.T, s impl.Inflow, why string) {
	t.Helper()
	kept := keptInflow(s)
	if impl.GoodInflow(s) {
		t.Errorf("%s: %+v is good", why, s)
	}
	for _, at := range []int{-1, 0, 3, 5000, mostVarint, mostVarint + 1} {
		for _, data := range []string{"", "abc", letters(1500), letters(1501)} {
			for _, fin := range []bool{false, true} {
				wantBadTake(t, s, at, data, fin, why)
			}
		}
	}
	for _, most := range []int{-1, 0, 1, mostBuffer, mostBuffer + 1} {
		wantNoRead(t, s, most, why)
	}
	if done, ok := impl.IsDone(s); done || ok {
		t.Errorf("%s: %+v: done %v %v", why, s, done, ok)
	}
	for _, limit := range []int{-1, 0, s.Limit, mostBuffer, mostBuffer + 1} {
		wantNoRaise(t, s, limit, why)
	}
	wantKeptInflow(t, why, s, kept)
}

func wantDone(t *testing.T, s impl.Inflow, want bool) {
	t.Helper()
	if done, ok := impl.IsDone(s); done != want || !ok {
		t.Errorf("%+v: done %v %v", s, done, ok)
	}
}

func wantRaise(t *testing.T, s impl.Inflow, limit int) {
	t.Helper()
	kept := keptInflow(s)
	want := keptInflow(s)
	want.Limit = limit
	if got, ok := impl.RaiseLimit(s, limit); !sameInflow(got, want) || !ok {
		t.Errorf("%+v raised to %d: %+v %v", s, limit, got, ok)
	}
	wantKeptInflow(t, "RaiseLimit", s, kept)
}

func wantNoRaise(t *testing.T, s impl.Inflow, limit int, why string) {
	t.Helper()
	if got, ok := impl.RaiseLimit(s, limit); !sameInflow(got, impl.Inflow{}) || ok {
		t.Errorf("%s: %+v raised to %d: %+v %v", why, s, limit, got, ok)
	}
}

func TestStreamConstants(t *testing.T) {
	if impl.MaxBuffer != mostBuffer || impl.MaxPieces != 40 {
		t.Error(impl.MaxBuffer, impl.MaxPieces)
	}
	codes := [6]int{impl.StreamOk, impl.StreamBad, impl.StreamLimit, impl.StreamFinal, impl.StreamClash, impl.StreamPieces}
	if codes != [6]int{0, 1, 2, 3, 4, 5} {
		t.Error(codes)
	}
}

func TestNewInflow(t *testing.T) {
	for _, limit := range []int{0, 1, 10, mostBuffer - 1, mostBuffer} {
		s, ok := impl.NewInflow(limit)
		if !sameInflow(s, impl.Inflow{Limit: limit, Read: 0, Final: -1}) || !ok {
			t.Errorf("%d: %+v %v", limit, s, ok)
		}
		wantInflow(t, s, "a new one")
		wantDone(t, s, false)
	}
	for _, limit := range []int{-1, -2, mostBuffer + 1, mostBuffer + 2, minInt, maxInt} {
		if s, ok := impl.NewInflow(limit); !sameInflow(s, impl.Inflow{}) || ok {
			t.Errorf("%d: %+v %v", limit, s, ok)
		}
	}
}

func TestInflowsThatAreGood(t *testing.T) {
	for _, c := range []struct {
		why string
		s   impl.Inflow
	}{
		{"the zero inflow", impl.Inflow{}},
		{"Limit 0", flow(0, 0, -1, "")},
		{"Limit MaxBuffer", flow(mostBuffer, 0, -1, "")},
		{"Read at Limit", flow(10, 10, -1, "")},
		{"Read and Limit at MaxBuffer", flow(mostBuffer, mostBuffer, -1, "")},
		{"Final at Read", flow(10, 4, 4, "")},
		{"Final at Limit", flow(10, 4, 10, "")},
		{"Final between", flow(10, 4, 7, "")},
		{"all at one place", flow(7, 7, 7, "")},
		{"Final 0", flow(10, 0, 0, "")},
		{"a piece at Read", flow(10, 4, -1, "4:ab")},
		{"a piece at Read that is 0", flow(10, 0, -1, "0:ab")},
		{"a piece behind Read", flow(10, 4, -1, "5:ab")},
		{"a piece to Limit", flow(10, 4, -1, "8:ab")},
		{"a byte to Limit", flow(10, 4, -1, "9:a")},
		{"a piece from Read to Limit", flow(10, 4, -1, "4:abcdef")},
		{"a piece to Final", flow(10, 4, 8, "6:ab")},
		{"a piece from Read to Final", flow(10, 4, 8, "4:abcd")},
		{"a piece to Final and Limit", flow(10, 4, 10, "8:ab")},
		{"a byte between", flow(10, 0, -1, "1:ab 4:cd")},
		{"a byte between, twice", flow(20, 0, -1, "1:ab 4:cd 7:e")},
		{"many between", flow(20, 2, 19, "2:ab 14:cd 18:e")},
		{"40 pieces", fullFlow()},
		{"40 pieces to Limit", impl.Inflow{Limit: mostBuffer, Read: 3921, Final: mostBuffer, Pieces: manyPieces(40, 3921)}},
		{"all bytes", impl.Inflow{Limit: mostBuffer, Final: mostBuffer, Pieces: []impl.Piece{{At: 0, Data: letters(mostBuffer)}}}},
	} {
		wantInflow(t, c.s, c.why)
	}
}

func TestInflowsThatAreNotGood(t *testing.T) {
	for _, c := range []struct {
		why string
		s   impl.Inflow
	}{
		{"Limit -1", flow(-1, 0, -1, "")},
		{"Limit and Read -1", flow(-1, -1, -1, "")},
		{"Limit one more", flow(mostBuffer+1, 0, -1, "")},
		{"Read -1", flow(10, -1, -1, "")},
		{"Read above Limit", flow(10, 11, -1, "")},
		{"Read above Limit, Final too", flow(10, 11, 11, "")},
		{"Final -2", flow(10, 4, -2, "")},
		{"Final less than Read", flow(10, 4, 3, "")},
		{"Final 0 less than Read", flow(10, 1, 0, "")},
		{"Final above Limit", flow(10, 4, 11, "")},
		{"a piece below Read", flow(10, 4, -1, "3:ab")},
		{"a piece that was read", flow(10, 4, -1, "2:ab")},
		{"a piece above Limit", flow(10, 4, -1, "9:ab")},
		{"a piece at Limit", flow(10, 4, -1, "10:a")},
		{"a piece beyond Limit", flow(10, 4, -1, "17:a")},
		{"a piece above Final", flow(10, 4, 8, "7:ab")},
		{"a piece at Final", flow(10, 4, 8, "8:a")},
		{"a piece between Final and Limit", flow(10, 4, 6, "8:a")},
		{"the second one above Final", flow(10, 4, 8, "4:a 7:ab")},
		{"pieces that touch", flow(10, 0, -1, "1:ab 3:cd")},
		{"later pieces that touch", flow(20, 0, -1, "1:ab 4:cd 6:e")},
		{"pieces that overlap", flow(10, 0, -1, "1:abc 3:cd")},
		{"a piece within another", flow(10, 0, -1, "1:abcde 2:bc")},
		{"a piece twice", flow(10, 0, -1, "1:ab 1:ab")},
		{"pieces that fall", flow(10, 0, -1, "6:ab 1:cd")},
		{"the last two fall", flow(20, 0, -1, "1:ab 9:ef 5:cd")},
		{"no Data", flow(10, 0, -1, "1:")},
		{"no Data at Read", flow(10, 4, -1, "4:")},
		{"no Data behind another", flow(10, 0, -1, "1:ab 5:")},
		{"no Data between two", flow(20, 0, -1, "1:ab 5: 9:cd")},
		{"no Data at Limit", flow(10, 0, -1, "10:")},
		{"41 pieces", impl.Inflow{Limit: 200, Final: -1, Pieces: manyPieces(41, 11)}},
		{"900 pieces", impl.Inflow{Limit: mostBuffer, Final: -1, Pieces: manyPieces(900, 11)}},
		{"all -1", flow(-1, -1, -1, "")},
	} {
		wantNoInflow(t, c.s, c.why)
	}
}

func TestInflowsAtTheEndsOfInt(t *testing.T) {
	good := flow(10, 4, 8, "5:ab")
	for _, n := range []int{minInt, minInt + 1, mostVarint, maxInt - 2, maxInt - 1, maxInt} {
		bad := keptInflow(good)
		bad.Limit = n
		wantNoInflow(t, bad, "Limit")
		bad = keptInflow(good)
		bad.Read = n
		wantNoInflow(t, bad, "Read")
		bad = keptInflow(good)
		bad.Final = n
		wantNoInflow(t, bad, "Final")
		for _, data := range []string{"", "a", "ab", "abcdefgh"} {
			for _, final := range []int{-1, 8} {
				bad = flow(10, 4, final, "")
				bad.Pieces = []impl.Piece{{At: n, Data: data}}
				wantNoInflow(t, bad, "the At of one")
				bad.Pieces = []impl.Piece{{At: 5, Data: "a"}, {At: n, Data: data}}
				wantNoInflow(t, bad, "the At of the second")
				bad.Pieces = []impl.Piece{{At: n, Data: data}, {At: 5, Data: "a"}}
				wantNoInflow(t, bad, "the At of the first")
			}
		}
	}
	wantNoInflow(t, impl.Inflow{Limit: maxInt, Read: maxInt, Final: maxInt}, "all of them the greatest int")
	wantNoInflow(t, impl.Inflow{Limit: minInt, Read: minInt, Final: minInt}, "all of them the least int")
}

func TestDone(t *testing.T) {
	for _, c := range []struct {
		s    impl.Inflow
		want bool
	}{
		{flow(10, 0, -1, ""), false},
		{flow(10, 10, -1, ""), false},
		{flow(0, 0, -1, ""), false},
		{flow(10, 4, -1, "5:ab"), false},
		{flow(10, 4, 5, ""), false},
		{flow(10, 4, 10, ""), false},
		{flow(10, 4, 6, "4:ab"), false},
		{flow(10, 0, 1, ""), false},
		{flow(10, 0, 0, ""), true},
		{flow(10, 4, 4, ""), true},
		{flow(10, 10, 10, ""), true},
		{flow(0, 0, 0, ""), true},
		{flow(mostBuffer, mostBuffer, mostBuffer, ""), true},
		{flow(mostBuffer, mostBuffer-1, mostBuffer, ""), false},
	} {
		wantDone(t, c.s, c.want)
	}
}

func TestLimitsRaised(t *testing.T) {
	for _, s := range []impl.Inflow{
		flow(0, 0, -1, ""),
		flow(1, 0, -1, "0:a"),
		flow(10, 4, -1, "5:ab 8:cd"),
		flow(10, 4, 8, "5:ab"),
		flow(10, 10, 10, ""),
		fullFlow(),
	} {
		for _, limit := range []int{s.Limit, s.Limit + 1, mostBuffer - 1, mostBuffer} {
			wantRaise(t, s, limit)
		}
		for _, limit := range []int{s.Limit - 1, -1, mostBuffer + 1, minInt, maxInt} {
			wantNoRaise(t, s, limit, "no limit for it")
		}
	}
	full := flow(mostBuffer, 0, -1, "0:a")
	wantRaise(t, full, mostBuffer)
	wantNoRaise(t, full, mostBuffer-1, "lower")
	wantNoRaise(t, full, mostBuffer+1, "above MaxBuffer")
	wantNoRaise(t, full, 0, "lower")
}
