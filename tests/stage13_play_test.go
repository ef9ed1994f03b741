package tests

import (
	"slices"
	"testing"

	"loop.example/g00206/impl"
)

func sentGrow(size int) impl.Grow {
	return impl.Grow{Kind: impl.GrowSent, Size: size}
}

func ackedGrow(size, time int) impl.Grow {
	return impl.Grow{Kind: impl.GrowAcked, Size: size, Time: time}
}

func lostGrow(size, time, now int) impl.Grow {
	return impl.Grow{Kind: impl.GrowLost, Size: size, Time: time, Now: now}
}

func stalledGrow() impl.Grow {
	return impl.Grow{Kind: impl.GrowStalled}
}

func wantPlay(t *testing.T, l []impl.Grow, want impl.Window, sizes []int) {
	t.Helper()
	if got, each, ok := impl.PlayWindow(l); got != want || !slices.Equal(each, sizes) || !ok {
		t.Errorf("%+v: %+v %v %v, not %+v %v", l, got, each, ok, want, sizes)
	}
}

func TestPlayOfNone(t *testing.T) {
	wantPlay(t, nil, window(12000, mostWindow, -1, 0), nil)
	wantPlay(t, []impl.Grow{}, window(12000, mostWindow, -1, 0), nil)
}

func TestPlayOfOne(t *testing.T) {
	for _, c := range []struct {
		grow impl.Grow
		want impl.Window
	}{
		{sentGrow(1200), window(12000, mostWindow, -1, 1200)},
		{sentGrow(0), window(12000, mostWindow, -1, 0)},
		{ackedGrow(0, 5), window(12000, mostWindow, -1, 0)},
		{lostGrow(0, 5, 9), window(6000, 6000, 9, 0)},
		{stalledGrow(), window(twoDatagrams, mostWindow, -1, 0)},
		// these tell false
		{ackedGrow(1, 5), window(12000, mostWindow, -1, 0)},
		{lostGrow(1, 5, 9), window(12000, mostWindow, -1, 0)},
		{sentGrow(-1), window(12000, mostWindow, -1, 0)},
		{sentGrow(1501), window(12000, mostWindow, -1, 0)},
		{lostGrow(0, -1, 9), window(12000, mostWindow, -1, 0)},
		{lostGrow(0, 5, -1), window(12000, mostWindow, -1, 0)},
		{lostGrow(0, 5, mostTick+1), window(12000, mostWindow, -1, 0)},
		{impl.Grow{}, window(12000, mostWindow, -1, 0)},
	} {
		wantPlay(t, []impl.Grow{c.grow}, c.want, []int{c.want.Size})
	}
}

func TestPlayOfEachKind(t *testing.T) {
	wantPlay(t, []impl.Grow{
		sentGrow(1200),
		sentGrow(1500),
		sentGrow(1300),
		ackedGrow(1200, 1), // below Threshold
		lostGrow(1500, 2, 9),
		lostGrow(100, 9, 10), // in the recovery
		ackedGrow(100, 9),    // in it too
		ackedGrow(660, 10),   // behind it: 1200 times 660 / 6600
		lostGrow(40, 11, 12),
		stalledGrow(),
		ackedGrow(400, 0),
	}, window(2800, 3360, -1, 0), []int{12000, 12000, 12000, 13200, 6600, 6600, 6600, 6720, 3360, 2400, 2800})
}

// Those that tell false, and those that are of no kind, change nothing between the others; behind each stands a Size.
func TestPlayGoesOn(t *testing.T) {
	wantPlay(t, []impl.Grow{
		ackedGrow(1000, 5), // nothing is in flight
		sentGrow(1000),
		{Kind: 5, Size: 1000, Time: 5, Now: 9},
		ackedGrow(1001, 5),
		ackedGrow(400, mostTick+1),
		ackedGrow(400, 5),
		sentGrow(1501),
		{},
		lostGrow(601, 6, 9),
		lostGrow(300, 6, mostTick+1),
		lostGrow(300, 6, 9),
		{Kind: -1},
		lostGrow(300, 7, -1),
		lostGrow(300, 7, 10),
		sentGrow(1500),
	}, window(6200, 6200, 9, 1500), []int{12000, 12000, 12000, 12000, 12000, 12400, 12400, 12400, 12400, 12400, 6200, 6200, 6200, 6200, 6200})
}

func TestPlayFindsNoRoom(t *testing.T) {
	var l []impl.Grow
	var sizes []int
	for range 12 { // eleven are too many for ten datagrams, and a stalled window has room for none
		l, sizes = append(l, sentGrow(1200)), append(sizes, 12000)
	}
	wantPlay(t, l, window(12000, mostWindow, -1, 12000), sizes)
	l, sizes = append(l, stalledGrow(), sentGrow(0)), append(sizes, 2400, 2400)
	wantPlay(t, l, window(2400, mostWindow, -1, 12000), sizes)
}

func TestPlayOfKindsThatAreNone(t *testing.T) {
	for _, kind := range []int{0, -1, 5, 6, 9, 256 + impl.GrowStalled, minInt, maxInt, minInt + impl.GrowStalled} {
		other := impl.Grow{Kind: kind, Size: 100, Time: 5, Now: 9}
		wantPlay(t, []impl.Grow{other}, window(12000, mostWindow, -1, 0), []int{12000})
		wantPlay(t, []impl.Grow{sentGrow(100), other, stalledGrow(), other}, window(2400, mostWindow, -1, 100), []int{12000, 12000, 2400, 2400})
	}
}

// What a kind does not ask for is not looked at.
func TestPlayLooksAtWhatTheKindAsksFor(t *testing.T) {
	for _, n := range []int{-1, 0, 1501, mostTick + 1, minInt, maxInt} {
		sent := impl.Grow{Kind: impl.GrowSent, Size: 1000, Time: n, Now: n}
		acked := impl.Grow{Kind: impl.GrowAcked, Size: 1000, Time: 5, Now: n}
		stalled := impl.Grow{Kind: impl.GrowStalled, Size: n, Time: n, Now: n}
		wantPlay(t, []impl.Grow{sent, acked, stalled}, window(2400, mostWindow, -1, 0), []int{12000, 13000, 2400})
	}
}

func TestPlayOfAsManyAsThereMayBe(t *testing.T) {
	l := []impl.Grow{sentGrow(1000)}
	sizes := []int{12000}
	for n := 1; n < 99; n++ {
		l, sizes = append(l, ackedGrow(10, n)), append(sizes, 12000+10*n)
	}
	wantPlay(t, l, window(12980, mostWindow, -1, 20), sizes)
	l, sizes = append(l, lostGrow(20, 99, 99)), append(sizes, 6490)
	wantPlay(t, l, window(6490, 6490, 99, 0), sizes)
	for _, more := range [][]impl.Grow{{stalledGrow()}, {{}}, make([]impl.Grow, 900)} {
		if w, each, ok := impl.PlayWindow(slices.Concat(l, more)); w != (impl.Window{}) || len(each) != 0 || ok {
			t.Errorf("too many: %+v %v %v", w, each, ok)
		}
	}
}

// A beginning of what is played is played as the beginning of the whole.
func TestPlayOfBeginnings(t *testing.T) {
	var s steps
	for range 50 {
		l := s.someGrows(100)
		_, whole, ok := impl.PlayWindow(l)
		if !ok || len(whole) != 100 {
			t.Fatal(whole, ok)
		}
		for n := range l {
			_, each, ok := impl.PlayWindow(l[:n])
			if !ok || !slices.Equal(each, whole[:n]) {
				t.Fatalf("%d of %+v: %v %v, not %v", n, l, each, ok, whole[:n])
			}
		}
	}
}

// The list is neither written into nor looked at behind its length, and the answer is not laid into it.
func TestPlayWritesIntoNothing(t *testing.T) {
	var s steps
	for range 400 {
		w := watchList(s.someGrows(s.below(103)), stalledGrow(), lostGrow(0, mostTick, 0), impl.Grow{Kind: minInt})
		got, each, ok := impl.PlayWindow(w.list)
		again, other, _ := impl.PlayWindow(slices.Clone(w.list))
		if got != again || !slices.Equal(each, other) {
			t.Fatalf("%+v: %+v %v, not %+v %v", w.list, got, each, again, other)
		}
		if ok != (len(w.list) <= 100) {
			t.Fatal(len(w.list), ok)
		}
		third, kept, _ := impl.PlayWindow(w.list)
		wantListsApart(t, memoryOf(w.whole), memoryOf(each), memoryOf(other), memoryOf(kept))
		wantNothingBehind(t, each)
		wantNothingBehind(t, other)
		if third != got || ok && len(kept) != len(w.list) {
			t.Fatalf("%+v: %+v %v", w.list, third, kept)
		}
		for i, size := range kept {
			if size < twoDatagrams {
				t.Fatalf("%d behind %d was written over", size, i)
			}
		}
		w.wantUnwritten(t)
	}
}
