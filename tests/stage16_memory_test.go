package tests

import (
	"slices"
	"testing"

	"loop.example/g00206/impl"
)

// watchedCapsules show whatever is written into capsules, into their data, or behind them.
type watchedCapsules struct {
	capsules watchedList[impl.Capsule]
	texts    []byte
	was      string
}

// watchCapsules lays behind the capsules what would be known or make them bad, if someone looked there.
func watchCapsules(l []impl.Capsule) watchedCapsules {
	var w watchedCapsules
	for _, c := range l {
		w.texts = append(w.texts, c.Data...)
	}
	w.was = string(w.texts)
	one := bare(w.texts)
	var own []impl.Capsule
	for _, c := range l {
		own = append(own, capsule(c.Kind, one[:len(c.Data)]))
		one = one[len(c.Data):]
	}
	w.capsules = watchList(own, capsule(0, "behind"), capsule(-1, "x"), impl.Capsule{})
	return w
}

// wantOwn holds answers against the capsules they were made of.
func (w watchedCapsules) wantOwn(t *testing.T, answer []impl.Capsule, texts ...string) {
	t.Helper()
	wantListsApart(t, memoryOf(w.capsules.whole), memoryOf(answer))
	for _, c := range answer {
		texts = append(texts, c.Data)
	}
	for _, text := range texts {
		wantNew(t, text, bare(w.texts))
	}
	w.capsules.wantUnwritten(t)
	if string(w.texts) != w.was {
		t.Fatalf("%x became %x", w.was, w.texts)
	}
}

func TestCapsulesWriteIntoNothing(t *testing.T) {
	var s steps
	good, known := 0, 0
	for range 10000 {
		l := s.someCapsules()
		for i := range l {
			if s.below(2) == 0 && l[i].Kind > 1 {
				l[i].Kind = s.below(2)
			}
		}
		w := watchCapsules(l)
		want, wantOk := impl.CapsulesBytes(l)
		text, ok := impl.CapsulesBytes(w.capsules.list)
		if text != want || ok != wantOk {
			t.Fatalf("%v: %x %v, then %x %v", l, want, wantOk, text, ok)
		}
		wantKnowns, wantOk := impl.KnownCapsules(l)
		knowns, ok := impl.KnownCapsules(w.capsules.list)
		if !slices.Equal(knowns, wantKnowns) || ok != wantOk {
			t.Fatalf("%v: %v %v, then %v %v", l, wantKnowns, wantOk, knowns, ok)
		}
		w.wantOwn(t, knowns, text)
		wantNothingBehind(t, knowns)
		w.wantOwn(t, nil)
		known += len(knowns)
		if ok {
			good++
		}
	}
	if good < 5000 || known < 10000 {
		t.Error(good, known)
	}
}

// keptData are capsules that lie in no other memory.
func keptData(l []impl.Capsule) []impl.Capsule {
	kept := slices.Clone(l)
	for i, c := range l {
		kept[i].Data = string([]byte(c.Data))
	}
	return kept
}

func TestReadCapsulesAnswersNewMemory(t *testing.T) {
	var s steps
	read, refused := 0, 0
	for range 10000 {
		was := s.someCapsulesBytes()
		text := []byte(was)
		l, size, ok := impl.ReadCapsules(bare(text))
		if string(text) != was {
			t.Fatalf("%x became %x", was, text)
		}
		kept := keptData(l)
		for _, c := range l {
			wantNew(t, c.Data, bare(text))
		}
		clear(text) // an answer that lay there would change
		if !slices.Equal(l, kept) {
			t.Fatalf("%x: %v became %v", was, kept, l)
		}
		wantNothingBehind(t, l)
		again, againSize, againOk := impl.ReadCapsules(was)
		if !slices.Equal(again, kept) || againSize != size || againOk != ok {
			t.Fatalf("%x: %v %d %v, then %v %d %v", was, kept, size, ok, again, againSize, againOk)
		}
		if ok {
			read++
		} else {
			refused++
		}
	}
	if read < 5000 || refused < 1000 {
		t.Error(read, refused)
	}
}

// Pieces lie one behind the other in one memory, with more texts behind them that nobody may look at.
func TestFeedCapsulesAnswersNewMemory(t *testing.T) {
	var s steps
	read, refused := 0, 0
	for range 10000 {
		pieces := s.somePieces(s.someCapsulesBytes())
		w := watchTexts(pieces)
		want, wantLeft, wantOk := impl.FeedCapsules(pieces)
		l, left, ok := impl.FeedCapsules(w.list)
		if !slices.Equal(l, want) || left != wantLeft || ok != wantOk {
			t.Fatalf("%x: %v %d %v, then %v %d %v", pieces, want, wantLeft, wantOk, l, left, ok)
		}
		w.wantUnwritten(t)
		for _, c := range l {
			wantNew(t, c.Data, bare(w.texts))
		}
		kept := keptData(l)
		clear(w.texts)
		if !slices.Equal(l, kept) {
			t.Fatalf("%x: %v became %v", pieces, kept, l)
		}
		wantNothingBehind(t, l)
		if ok {
			read++
		} else {
			refused++
		}
	}
	if read < 5000 || refused < 1000 {
		t.Error(read, refused)
	}
}

// What is left of one call is not there in the next one.
func TestFeedCapsulesKeepsNothing(t *testing.T) {
	for range 3 {
		wantFeed(t, []string{"\x00\x02", "h"}, nil, 3)
		wantFeed(t, []string{"i"}, nil, 1)
		wantFeed(t, []string{"\x00\x00"}, capsules("0:"), 0)
		wantNoFeed(t, []string{"\x00\x40\xc9"}, "a length too great")
		wantFeed(t, slices.Repeat([]string{"\x01\x00"}, 30), slices.Repeat(capsules("1:"), 30), 0)
	}
}

func TestCarriedWritesIntoNothing(t *testing.T) {
	var s steps
	for range 3000 {
		was := s.text(s.below(40))
		data := []byte(was)
		c := carried(4*s.below(100), s.someVarint(), bare(data))
		text, ok := impl.CarriedBytes(c)
		if !ok || string(data) != was || !impl.GoodCarried(c) {
			t.Fatalf("%v: %x %v", c, text, ok)
		}
		wantNew(t, text, bare(data))
		given := []byte(text)
		back, ok := impl.ReadCarried(bare(given))
		if back != c || !ok || string(given) != text {
			t.Fatalf("%x: %v %v, not %v", text, back, ok, c)
		}
		wantNew(t, back.Data, bare(given))
		clear(given)
		clear(data)
		if back.Data != was {
			t.Fatalf("%x became %x", was, back.Data)
		}
	}
}
