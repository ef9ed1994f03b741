package tests

import (
	"slices"
	"strings"
	"testing"

	"loop.example/g00206/impl"
)

// watchedInflow shows whatever is written into an inflow's pieces, into their texts, or behind them.
type watchedInflow struct {
	s      impl.Inflow
	pieces watchedList[impl.Piece]
	texts  []byte
	was    string
}

// watchInflow lays behind the pieces what would be seen in an answer, if someone looked there.
func watchInflow(s impl.Inflow) watchedInflow {
	var w watchedInflow
	for _, x := range s.Pieces {
		w.texts = append(w.texts, x.Data...)
	}
	w.was = string(w.texts)
	one := bare(w.texts)
	var l []impl.Piece
	for _, x := range s.Pieces {
		l = append(l, impl.Piece{At: x.At, Data: one[:len(x.Data)]})
		one = one[len(x.Data):]
	}
	w.pieces = watchList(l, impl.Piece{At: s.Read, Data: "behind"}, impl.Piece{}, impl.Piece{At: minInt, Data: "x"})
	s.Pieces = w.pieces.list
	w.s = s
	return w
}

func (w watchedInflow) wantUnwritten(t *testing.T) {
	t.Helper()
	w.pieces.wantUnwritten(t)
	if string(w.texts) != w.was {
		t.Fatalf("%x became %x", w.was, w.texts)
	}
}

// wantOwn holds an answer against the inflow and the texts it was made of.
func (w watchedInflow) wantOwn(t *testing.T, answer impl.Inflow, texts ...string) {
	t.Helper()
	wantListsApart(t, memoryOf(w.pieces.whole), memoryOf(answer.Pieces))
	for _, x := range answer.Pieces {
		wantNew(t, x.Data, append(texts, bare(w.texts))...)
	}
	wantNothingBehind(t, answer.Pieces)
	w.wantUnwritten(t)
}

func TestInflowsWriteIntoNothing(t *testing.T) {
	var s steps
	sent := sentText()
	var codes [6]int
	cut, raised := 0, 0
	for range 12000 {
		a := s.someInflow(sent)
		w := watchInflow(a)
		if impl.GoodInflow(w.s) != impl.GoodInflow(a) {
			t.Fatalf("%+v: what lies behind counts", a)
		}
		at, data, fin := s.someComing(a, sent)
		comes := []byte(data)
		want, wantCode := impl.TakePiece(a, at, data, fin)
		got, code := impl.TakePiece(w.s, at, bare(comes), fin)
		if !sameInflow(got, want) || code != wantCode || string(comes) != data {
			t.Fatalf("%+v: %+v %d, then %+v %d", a, want, wantCode, got, code)
		}
		codes[code]++
		w.wantOwn(t, got, bare(comes))

		most := s.below(12)
		want, text, _ := impl.ReadSome(a, most)
		got, again, ok := impl.ReadSome(w.s, most)
		if !sameInflow(got, want) || text != again {
			t.Fatalf("%+v: %+v %x, then %+v %x", a, want, text, got, again)
		}
		wantNew(t, again, bare(w.texts))
		if ok && text != "" && len(got.Pieces) > 0 {
			cut++
		}
		w.wantOwn(t, got)

		got, ok = impl.RaiseLimit(w.s, mostBuffer)
		if ok {
			raised++
		}
		w.wantOwn(t, got)
		impl.IsDone(w.s)
		w.wantUnwritten(t)
	}
	for code, n := range codes {
		if n < 50 {
			t.Error(code, n, codes)
		}
	}
	if cut < 500 || raised < 5000 {
		t.Error(cut, raised)
	}
}

// Where nothing becomes of an inflow, the answer is a new one still; so is what is put into an empty one.
func TestInflowsThatStayAreNew(t *testing.T) {
	w := watchInflow(flow(20, 4, -1, "4:efg 9:j"))
	for _, c := range []struct {
		at   int
		data string
		fin  bool
		code int
	}{
		{4, "efg", false, impl.StreamOk},
		{9, "j", true, impl.StreamOk},
		{0, "abcd", false, impl.StreamOk},
		{12, "", false, impl.StreamOk},
		{19, "tu", false, impl.StreamLimit},
		{9, "", true, impl.StreamFinal},
		{9, "X", false, impl.StreamClash},
	} {
		got, code := impl.TakePiece(w.s, c.at, c.data, c.fin)
		if code != c.code || len(got.Pieces) != 2 {
			t.Errorf("%+v: %+v %d", c, got, code)
		}
		w.wantOwn(t, got)
	}
	got, text, ok := impl.ReadSome(w.s, 0)
	if text != "" || !ok || len(got.Pieces) != 2 {
		t.Error(got, text, ok)
	}
	w.wantOwn(t, got)
	full := watchInflow(fullFlow())
	got, code := impl.TakePiece(full.s, 95, "x", false)
	if code != impl.StreamPieces || len(got.Pieces) != 40 {
		t.Error(got, code)
	}
	full.wantOwn(t, got)
	for _, fin := range []bool{false, true} {
		comes := []byte("abc")
		alone, code := impl.TakePiece(flow(20, 0, -1, ""), 3, bare(comes), fin)
		if code != impl.StreamOk || len(alone.Pieces) != 1 {
			t.Fatal(alone, code)
		}
		wantNew(t, alone.Pieces[0].Data, bare(comes))
	}
}

// Two that are made of one inflow do not come into each other's way.
func TestInflowsKeepTheirAnswers(t *testing.T) {
	var s steps
	sent := sentText()
	first, _ := impl.NewInflow(mostBuffer)
	for range 300 {
		at := s.below(400)
		one, code := impl.TakePiece(first, at, sent[at:at+s.below(20)], false)
		if code != impl.StreamOk && code != impl.StreamPieces {
			t.Fatal(code)
		}
		kept := keptInflow(one)
		keptFirst := keptInflow(first)
		other, _ := impl.TakePiece(first, 500, "other", true)
		clear(other.Pieces)
		more, _ := impl.TakePiece(one, 0, sent[:450], false)
		clear(more.Pieces)
		less, _, _ := impl.ReadSome(one, 7)
		clear(less.Pieces)
		wantKeptInflow(t, "what came later", one, kept)
		wantKeptInflow(t, "what came of it", first, keptFirst)
		first = one
	}
}

// What lies behind the length of a list is not looked at.
func TestStreamsLookAtTheListsAlone(t *testing.T) {
	row := slices.Concat(pieces("4:efg 9:j 12:m 13:n 5:f 90:x"), manyPieces(60, 20))
	kept := slices.Clone(row)
	for n := range 4 {
		s := impl.Inflow{Limit: 20, Read: 4, Final: -1, Pieces: row[:n]}
		wantInflow(t, s, "the first ones")
		wantTake(t, s, 16, "q", false, impl.Inflow{Limit: 20, Read: 4, Final: -1, Pieces: slices.Concat(kept[:n], pieces("16:q"))})
		wantTake(t, s, 16, "q", true, impl.Inflow{Limit: 20, Read: 4, Final: 17, Pieces: slices.Concat(kept[:n], pieces("16:q"))})
		if n > 0 {
			wantSome(t, s, 9, "efg", impl.Inflow{Limit: 20, Read: 7, Final: -1, Pieces: kept[1:n]})
		} else {
			wantSome(t, s, 9, "", s)
		}
	}
	wantNoInflow(t, impl.Inflow{Limit: 20, Read: 4, Final: -1, Pieces: row[:4]}, "the fourth one touches")
	if !slices.Equal(row, kept) {
		t.Errorf("%v became %v", kept, row)
	}

	cuts := watchList([]int{2, 4}, 3, 99, -1)
	order := watchList([]int{2, 0}, 1, 1, 1)
	wantStream(t, "abcdef", 6, cuts.list, order.list, "ab", false)
	wantStream(t, "abcdef", 6, cuts.list[:1], order.list[:1], "", false)
	wantStream(t, "abcdef", 6, cuts.list[:0], order.list[1:], "abcdef", true)
	cuts.wantUnwritten(t)
	order.wantUnwritten(t)
}

func TestOutflowsWriteIntoNothing(t *testing.T) {
	var s steps
	told := 0
	for range 3000 {
		data := []byte(s.text(s.below(250)))
		kept := string(data)
		a := outflow(s.below(260), s.below(len(data)+1), bare(data), s.below(2) == 0)
		most := 1 + s.below(200)
		got, f, ok := impl.NextPiece(a, most)
		impl.GoodOutflow(a)
		wantNew(t, got.Data, bare(data))
		wantNew(t, f.Data, bare(data), got.Data)
		again, other, okAgain := impl.NextPiece(outflow(a.Limit, a.Sent, kept, a.Ended), most)
		if again != got || !sameFrame(f, other) || ok != okAgain || string(data) != kept {
			t.Fatalf("%+v: %+v %+v %v, then %+v %+v %v", a, got, f, ok, again, other, okAgain)
		}
		if ok {
			told++
		}
	}
	if told < 1000 {
		t.Error(told)
	}
}

func TestPlaysOfStreamsWriteIntoNothing(t *testing.T) {
	var s steps
	whole := 0
	for range 800 {
		data := []byte(s.text(s.below(250)))
		kept := string(data)
		cuts := watchList(s.someCuts(len(data)), 1, 0, -1)
		order := watchList(s.someOrder(len(cuts.list)+1), 0, 1, 2)
		text, done, ok := impl.PlayStream(bare(data), len(data), cuts.list, order.list)
		wantNew(t, text, bare(data))
		again, doneAgain, okAgain := impl.PlayStream(kept, len(kept), slices.Clone(cuts.list), slices.Clone(order.list))
		if again != text || doneAgain != done || okAgain != ok || string(data) != kept {
			t.Fatalf("%x cut at %v in the order %v: %x %v %v, then %x %v %v", data, cuts.list, order.list, text, done, ok, again, doneAgain, okAgain)
		}
		cuts.wantUnwritten(t)
		order.wantUnwritten(t)
		if strings.Compare(text, kept) == 0 {
			whole++
		}
	}
	if whole < 200 {
		t.Error(whole)
	}
}
