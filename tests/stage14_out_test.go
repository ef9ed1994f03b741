package tests

import (
	"testing"

	"loop.example/g00206/impl"
)

func outflow(limit, sent int, data string, ended bool) impl.Outflow {
	return impl.Outflow{Limit: limit, Sent: sent, Data: data, Ended: ended}
}

// wantNext looks for a frame with the next bytes, and for a Sent behind them.
func wantNext(t *testing.T, s impl.Outflow, most int, text string, fin bool) impl.Outflow {
	t.Helper()
	frame := impl.Frame{Kind: impl.FrameStream, B: s.Sent, Data: text, Fin: fin}
	want := s
	want.Sent += len(text)
	got, f, ok := impl.NextPiece(s, most)
	if got != want || !sameFrame(f, frame) || !ok {
		t.Errorf("%+v, up to %d: %+v %+v %v, not %q %v", s, most, got, f, ok, text, fin)
	}
	if !impl.GoodFrame(f) || !impl.GoodOutflow(got) {
		t.Errorf("%+v, up to %d: %+v or %+v is not good", s, most, got, f)
	}
	return got
}

func wantNoNext(t *testing.T, s impl.Outflow, most int, why string) {
	t.Helper()
	if got, f, ok := impl.NextPiece(s, most); got != (impl.Outflow{}) || !sameFrame(f, impl.Frame{}) || ok {
		t.Errorf("%s: %+v, up to %d: %+v %+v %v", why, s, most, got, f, ok)
	}
}

func TestOutflowsThatAreGood(t *testing.T) {
	all := letters(mostBuffer)
	for _, ended := range []bool{false, true} {
		for _, s := range []impl.Outflow{
			outflow(0, 0, "", ended),
			outflow(0, 0, "abcde", ended),
			outflow(mostVarint, 0, "", ended),
			outflow(mostVarint, 0, "abcde", ended),
			outflow(mostVarint, 5, "abcde", ended),
			outflow(3, 0, "abcde", ended),
			outflow(3, 2, "abcde", ended),
			outflow(3, 3, "abcde", ended),
			outflow(5, 5, "abcde", ended),
			outflow(6, 5, "abcde", ended),
			outflow(0, 0, all, ended),
			outflow(mostBuffer, mostBuffer, all, ended),
			outflow(mostVarint, mostBuffer, all, ended),
		} {
			if !impl.GoodOutflow(s) {
				t.Errorf("%d %d %d: not good", s.Limit, s.Sent, len(s.Data))
			}
		}
	}
}

func TestOutflowsThatAreNotGood(t *testing.T) {
	all := letters(mostBuffer + 1)
	for _, ended := range []bool{false, true} {
		for _, s := range []impl.Outflow{
			outflow(-1, 0, "abcde", ended),
			outflow(-1, -1, "abcde", ended),
			outflow(mostVarint+1, 0, "abcde", ended),
			outflow(minInt, 0, "abcde", ended),
			outflow(maxInt, 0, "abcde", ended),
			outflow(10, -1, "abcde", ended),
			outflow(10, -1, "", ended),
			outflow(10, 6, "abcde", ended),
			outflow(10, 1, "", ended),
			outflow(10, minInt, "abcde", ended),
			outflow(10, maxInt, "abcde", ended),
			outflow(mostVarint, maxInt, "abcde", ended),
			outflow(3, 4, "abcde", ended),
			outflow(0, 1, "abcde", ended),
			outflow(4, 5, "abcde", ended),
			outflow(mostVarint, 0, all, ended),
			outflow(10, 10, all, ended),
			outflow(minInt, minInt, "abcde", ended),
			outflow(maxInt, maxInt, "abcde", ended),
		} {
			if impl.GoodOutflow(s) {
				t.Errorf("%d %d %d: good", s.Limit, s.Sent, len(s.Data))
			}
			for _, most := range []int{-1, 0, 1, 5, 200, 201} {
				wantNoNext(t, s, most, "not good")
			}
		}
	}
}

func TestNextPieces(t *testing.T) {
	for _, c := range []struct {
		why         string
		limit, sent int
		most        int
		text        string
		last        bool
	}{
		{"fewer than are left", 10, 1, 2, "bc", false},
		{"one", 10, 1, 1, "b", false},
		{"one less than are left", 10, 1, 3, "bcd", false},
		{"just what is left", 10, 1, 4, "bcde", true},
		{"more than are left", 10, 1, 5, "bcde", true},
		{"as many as may be", 10, 1, 200, "bcde", true},
		{"the last one", 10, 4, 1, "e", true},
		{"from the front", 10, 0, 2, "ab", false},
		{"all", 10, 0, 200, "abcde", true},
		{"up to Limit in the midst", 3, 1, 200, "bc", false},
		{"most up to Limit", 3, 1, 2, "bc", false},
		{"most ahead of Limit", 3, 1, 1, "b", false},
		{"most a byte beyond Limit", 3, 1, 3, "bc", false},
		{"Limit a byte ahead of the end", 4, 1, 200, "bcd", false},
		{"Limit at the end", 5, 1, 200, "bcde", true},
		{"Limit at the end, fewer", 5, 1, 3, "bcd", false},
		{"Limit a byte behind the end", 6, 1, 200, "bcde", true},
		{"Limit far behind the end", mostVarint, 1, 200, "bcde", true},
		{"Limit 1", 1, 0, 200, "a", false},
	} {
		wantNext(t, outflow(c.limit, c.sent, "abcde", false), c.most, c.text, false)
		wantNext(t, outflow(c.limit, c.sent, "abcde", true), c.most, c.text, c.last)
	}
}

func TestNextPiecesOfNoBytes(t *testing.T) {
	for _, most := range []int{1, 2, 200} {
		for _, limit := range []int{5, 6, mostVarint} {
			// all is sent: there is nothing but the end to tell, and that as often as it is asked for
			s := wantNext(t, outflow(limit, 5, "abcde", true), most, "", true)
			wantNext(t, s, most, "", true)
			wantNoNext(t, outflow(limit, 5, "abcde", false), most, "all is sent")
		}
		for _, limit := range []int{0, 1, mostVarint} {
			wantNext(t, outflow(limit, 0, "", true), most, "", true)
			wantNoNext(t, outflow(limit, 0, "", false), most, "there are no bytes")
		}
		for _, ended := range []bool{false, true} {
			wantNoNext(t, outflow(3, 3, "abcde", ended), most, "Limit is met")
			wantNoNext(t, outflow(4, 4, "abcde", ended), most, "Limit is met")
			wantNoNext(t, outflow(0, 0, "abcde", ended), most, "Limit is 0")
			wantNoNext(t, outflow(0, 0, "a", ended), most, "Limit is 0")
		}
	}
}

func TestNextPiecesOfNoNumber(t *testing.T) {
	for _, ended := range []bool{false, true} {
		for _, s := range []impl.Outflow{outflow(10, 1, "abcde", ended), outflow(10, 5, "abcde", ended), outflow(3, 0, "abcde", ended), outflow(10, 0, "", ended), outflow(mostVarint, 0, letters(mostBuffer), ended)} {
			for _, most := range []int{0, -1, -2, 201, 202, minInt, maxInt} {
				wantNoNext(t, s, most, "most")
			}
		}
	}
}

func TestNextPiecesOfManyBytes(t *testing.T) {
	all := letters(mostBuffer)
	wantNext(t, outflow(mostVarint, 0, all, true), 200, all[:200], false)
	wantNext(t, outflow(mostVarint, 0, all, true), 199, all[:199], false)
	wantNext(t, outflow(mostVarint, 3799, all, true), 200, all[3799:3999], false)
	wantNext(t, outflow(mostVarint, 3800, all, true), 200, all[3800:], true)
	wantNext(t, outflow(mostBuffer, 3801, all, true), 200, all[3801:], true)
	wantNext(t, outflow(3999, 3801, all, true), 200, all[3801:3999], false)
	wantNext(t, outflow(mostBuffer, mostBuffer, all, true), 1, "", true)
}

// One piece follows the other until there are none left; a Limit that is raised lets them go on.
func TestPiecesOneBehindTheOther(t *testing.T) {
	s := wantNext(t, outflow(4, 0, "abcdefg", true), 3, "abc", false)
	s = wantNext(t, s, 3, "d", false)
	wantNoNext(t, s, 3, "Limit is met")
	s.Limit = 6
	s = wantNext(t, s, 3, "ef", false)
	wantNoNext(t, s, 3, "Limit is met")
	s.Limit = 7
	s = wantNext(t, s, 3, "g", true)
	s = wantNext(t, s, 3, "", true)
	s.Ended = false
	wantNoNext(t, s, 3, "it goes on")
	s.Data += "hi"
	wantNoNext(t, s, 3, "Limit is met")
	s.Limit = 100
	wantNext(t, s, 3, "hi", false)
}
