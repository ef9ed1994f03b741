package tests

import (
	"slices"
	"testing"

	"loop.example/g00206/impl"
)

// watchedList shows whatever is written into a list, or behind it.
type watchedList[T comparable] struct {
	list, whole, kept []T
}

// watchList lays behind the list what would be seen in an answer, if someone looked there.
func watchList[T comparable](l []T, behind ...T) watchedList[T] {
	whole := slices.Concat(l, behind)
	return watchedList[T]{whole[:len(l)], whole, slices.Clone(whole)}
}

func (w watchedList[T]) wantUnwritten(t *testing.T) {
	t.Helper()
	if !slices.Equal(w.whole, w.kept) {
		t.Fatalf("%v became %v", w.kept, w.whole)
	}
}

func watchRanges(l []impl.Range) watchedList[impl.Range] {
	return watchList(l, impl.Range{From: 0, To: 0}, impl.Range{From: 9, To: 3}, impl.Range{From: 0, To: mostVarint})
}

func watchSpace(s impl.Space) (impl.Space, watchedList[impl.Sent]) {
	w := watchList(s.Sent, impl.Sent{Number: mostVarint, Time: mostTick, Size: 1500}, impl.Sent{Number: -7}, impl.Sent{})
	s.Sent = w.list
	return s, w
}

// wantListsApart holds lists against each other; those without memory share none.
func wantListsApart(t *testing.T, lists ...memory) {
	t.Helper()
	for i, a := range lists {
		for _, b := range lists[:i] {
			if a.from < a.to && b.from < b.to && a.from < b.to && b.from < a.to {
				t.Fatal("two lists share memory")
			}
		}
	}
}

// wantNothingBehind looks behind an answer's length, where nothing of what was cut off may lie; then it writes all over it.
func wantNothingBehind[T comparable](t *testing.T, l []T) {
	t.Helper()
	var none T
	for _, x := range l[len(l):cap(l)] {
		if x != none {
			t.Fatalf("%v lies behind %v", x, l)
		}
	}
	clear(l[:cap(l)])
}

func TestRangesWriteIntoNothing(t *testing.T) {
	var s steps
	full := 0
	for range 4000 {
		base := s.someBase()
		a, b := watchRanges(s.someRanges(base)), watchRanges(s.someRanges(base))
		if len(a.list) == 20 {
			full++
		}
		impl.GoodRanges(a.list)
		n := s.someNumber(base)
		impl.HasNumber(a.list, n)
		put, _ := impl.PutNumber(a.list, n)
		joined, _ := impl.JoinRanges(a.list, b.list)
		twice, _ := impl.JoinRanges(a.list, a.list)
		alone, _ := impl.JoinRanges(a.list, nil)
		other, _ := impl.JoinRanges(nil, a.list)
		answers := [][]impl.Range{put, joined, twice, alone, other}
		all := []memory{memoryOf(a.whole), memoryOf(b.whole)}
		for _, l := range answers {
			all = append(all, memoryOf(l))
		}
		wantListsApart(t, all...)
		for _, l := range answers {
			wantNothingBehind(t, l)
		}
		a.wantUnwritten(t)
		b.wantUnwritten(t)
	}
	if full < 50 {
		t.Error(full)
	}
}

// A number that is there already, or that finds no room, is answered in new memory too.
func TestRangesThatStayAreNew(t *testing.T) {
	w := watchRanges(apart(20, 10, 1, 3))
	for _, n := range []int{10, 86, 50, 0, 8, 9, 11, 12, 88, mostVarint} {
		got, ok := impl.PutNumber(w.list, n)
		if !ok {
			t.Error(n)
		}
		wantListsApart(t, memoryOf(w.whole), memoryOf(got))
		wantNothingBehind(t, got)
		w.wantUnwritten(t)
	}
}

func TestSpacesWriteIntoNothing(t *testing.T) {
	var s steps
	sent, taken := 0, 0
	for range 4000 {
		base := s.someBase()
		a, w := watchSpace(s.someSpace(base))
		l := watchRanges(s.someRanges(base))
		impl.GoodSpace(a)
		with, ok := impl.SendNumber(a, sentOf(max(lastOf(a).Number, a.Largest)+1, lastOf(a).Time))
		if ok {
			sent++
		}
		got, acked, lost, ok := impl.TakeAck(a, l.list, lastOf(a).Time+s.below(99), s.below(9))
		if ok {
			taken++
		}
		wantListsApart(t, memoryOf(w.whole), memoryOf(l.whole), memoryOf(with.Sent), memoryOf(got.Sent), memoryOf(acked), memoryOf(lost))
		wantNothingBehind(t, with.Sent)
		wantNothingBehind(t, got.Sent)
		wantNothingBehind(t, acked)
		wantNothingBehind(t, lost)
		w.wantUnwritten(t)
		l.wantUnwritten(t)
	}
	if sent < 1000 || taken < 1000 {
		t.Error(sent, taken)
	}
}

// Nothing is acked or lost, and still the space is a new one.
func TestSpacesThatStayAreNew(t *testing.T) {
	a, w := watchSpace(spaceOf(-1, "8@0 9@0 11@0", impl.Rtt{}))
	got, _, _, ok := impl.TakeAck(a, spans("10"), 5, 0)
	if !ok || len(got.Sent) != 3 {
		t.Fatal(got, ok)
	}
	wantListsApart(t, memoryOf(w.whole), memoryOf(got.Sent))
	wantNothingBehind(t, got.Sent)
	w.wantUnwritten(t)
}

// Two that are sent behind one space do not come into each other's way.
func TestSpacesKeepTheirAnswers(t *testing.T) {
	first := wantSend(t, impl.Space{Largest: -1}, sentOf(0, 0))
	for n := 1; n < 40; n++ {
		one := wantSend(t, first, sentOf(n, n))
		other := wantSend(t, first, sentOf(1000, 1000))
		kept := keptSpace(one)
		impl.TakeAck(one, spans("0..2000"), mostTick, 0)
		clear(other.Sent)
		wantKeptSpace(t, "what came later", one, kept)
		first = one
	}
}

// What lies behind a list's length is not looked at.
func TestLossesLookAtTheListsAlone(t *testing.T) {
	row := slices.Concat(spans("30 20..22 10..12"), spans("12 5..3 -1"), apart(30, 0, 1, 1))
	kept := slices.Clone(row)
	for n := range 4 {
		if !impl.GoodRanges(row[:n]) {
			t.Errorf("%v is not good", row[:n])
		}
		wantPut(t, row[:n], 32, slices.Concat(spans("32"), kept[:n]))
		wantPut(t, row[:n], 1, slices.Concat(kept[:n], spans("1")))
		wantJoin(t, row[:n], spans("40"), slices.Concat(spans("40"), kept[:n]))
		wantHas(t, row[:n], 12, n == 3)
		wantHas(t, row[:n], 5, false)
	}
	if impl.GoodRanges(row[:4]) {
		t.Error("the fourth one overlaps")
	}
	wantKeptRanges(t, "any call", row, kept)

	sent := slices.Concat(sents("1@1 2@2 3@3 2@2 9@1 -1@0"), manySents(60, 0, 0))
	keptSent := slices.Clone(sent)
	for n := range 4 {
		s := impl.Space{Largest: -1, Sent: sent[:n]}
		wantSpace(t, s, "the first ones")
		wantSend(t, s, sentOf(7, 7))
		wantAck(t, s, row[:1], 2+n, 0, impl.Space{Largest: 30}, nil, []int{1, 2, 3}[:n])
	}
	wantNoSpace(t, impl.Space{Largest: -1, Sent: sent[:4]}, "the fourth one falls")
	if !slices.Equal(sent, keptSent) {
		t.Errorf("%v became %v", keptSent, sent)
	}
}

// One list may be handed in twice.
func TestRangesJoinedWithThemselves(t *testing.T) {
	row := spans("90..99 70 50..55 30 10..12")
	kept := slices.Clone(row)
	wantJoin(t, row[:3], row[1:], kept)
	wantJoin(t, row[:2], row[3:], slices.Concat(kept[:2], kept[3:]))
	wantJoin(t, row, row, kept)
	wantKeptRanges(t, "JoinRanges", row, kept)
}
