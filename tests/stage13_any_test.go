package tests

import (
	"testing"

	"loop.example/g00206/impl"
)

func windowTold(w impl.Window) bool {
	for _, n := range []int{w.Size, w.Threshold} {
		if n < twoDatagrams || n > mostWindow {
			return false
		}
	}
	return !(w.Start < -1 || w.Start > mostTick || w.Flight < 0 || w.Flight > mostWindow)
}

// parts is how often the whole goes into n times 1200, told by taking it away.
func parts(n, whole int) int {
	count := 0
	for left := n * 1200; left >= whole; left -= whole {
		count++
	}
	return count
}

// grownTold is what becomes of a good window, told another way: first whether anything does, then each field.
func grownTold(w impl.Window, g impl.Grow) (impl.Window, bool) {
	if g.Kind == 4 {
		return window(twoDatagrams, w.Threshold, -1, w.Flight), true
	}
	if g.Kind < 1 || g.Kind > 4 || g.Size < 0 || g.Size > 1500 {
		return impl.Window{}, false
	}
	if g.Kind == 1 {
		return window(w.Size, w.Threshold, w.Start, w.Flight+g.Size), w.Size-w.Flight >= g.Size
	}
	if g.Time < 0 || g.Time > mostTick || g.Size > w.Flight {
		return impl.Window{}, false
	}
	if g.Kind == 3 && (g.Now < 0 || g.Now > mostTick) {
		return impl.Window{}, false
	}
	left := window(w.Size, w.Threshold, w.Start, w.Flight-g.Size)
	switch {
	case g.Time <= w.Start:
	case g.Kind == 3:
		half := w.Size >> 1
		if half < twoDatagrams {
			half = twoDatagrams
		}
		left.Size, left.Threshold, left.Start = half, half, g.Now
	case w.Threshold > w.Size:
		left.Size += g.Size
	default:
		left.Size += parts(g.Size, w.Size)
	}
	if left.Size > mostWindow {
		left.Size = mostWindow
	}
	return left, true
}

// callOf asks the function of the grow's Kind.
func callOf(w impl.Window, g impl.Grow) (impl.Window, bool) {
	switch g.Kind {
	case 1:
		return impl.SentBytes(w, g.Size)
	case 2:
		return impl.AckedBytes(w, g.Size, g.Time)
	case 3:
		return impl.LostBytes(w, g.Size, g.Time, g.Now)
	}
	return impl.StalledWindow(w)
}

// someSize is mostly a size.
func (s *steps) someSize() int {
	switch s.below(16) {
	case 0:
		return noSizes()[s.below(len(noSizes()))]
	case 1:
		return 1500 - s.below(3)
	case 2:
		return s.below(3)
	}
	return s.below(1501)
}

// someWidth is mostly one that a window may have.
func (s *steps) someWidth() int {
	switch s.below(12) {
	case 0:
		return noWidths()[s.below(len(noWidths()))]
	case 1:
		return mostWindow - s.below(2000)
	case 2, 3:
		return twoDatagrams + s.below(3)
	case 4, 5:
		return twoDatagrams + s.below(2500000)
	}
	return twoDatagrams + s.below(20000)
}

// someWindow is mostly good.
func (s *steps) someWindow() impl.Window {
	w := window(s.someWidth(), s.someWidth(), s.someTick()-1, s.below(20000))
	switch s.below(10) {
	case 0:
		w.Flight = []int{-1, 0, mostWindow, mostWindow + 1, minInt, maxInt}[s.below(6)]
	case 1, 2:
		w.Flight = s.below(1500)
	case 3, 4, 5:
		w.Flight = w.Size - s.below(1600) + 50
	case 6:
		w.Threshold = w.Size + s.below(3) - 1
	}
	return w
}

func (s *steps) someGrow() impl.Grow {
	g := impl.Grow{Kind: 1 + s.below(4), Size: s.someSize(), Time: s.someTick(), Now: s.someTick()}
	if s.below(12) == 0 {
		g.Kind = []int{-1, 0, 5, 9, minInt, maxInt}[s.below(6)]
	}
	return g
}

func TestWindowsAtAnyArguments(t *testing.T) {
	var s steps
	good, bad := 0, 0
	var changed, refused [5]int
	for range 60000 {
		w, g := s.someWindow(), s.someGrow()
		g.Kind = 1 + s.below(4)
		if s.below(4) == 0 {
			g.Time = w.Start + s.below(3) - 1
		}
		told := windowTold(w)
		if impl.GoodWindow(w) != told {
			t.Fatalf("%+v: not %v", w, told)
		}
		room, ok := impl.RoomIn(w)
		var want impl.Window
		wanted, left := false, 0
		if told {
			good++
			want, wanted = grownTold(w, g)
			if w.Size > w.Flight {
				left = w.Size - w.Flight
			}
		} else {
			bad++
		}
		if room != left || ok != told {
			t.Fatalf("%+v: room for %d %v, not %d", w, room, ok, left)
		}
		if wanted {
			changed[g.Kind]++
		} else {
			want = impl.Window{}
			refused[g.Kind]++
		}
		if got, ok := callOf(w, g); got != want || ok != wanted {
			t.Fatalf("%+v with %+v: %+v %v, not %+v %v", w, g, got, ok, want, wanted)
		}
		if wanted && !impl.GoodWindow(want) {
			t.Fatalf("%+v with %+v: %+v is not good", w, g, want)
		}
	}
	if good < 20000 || bad < 10000 {
		t.Error(good, bad)
	}
	for kind := 1; kind <= 4; kind++ {
		if changed[kind] < 1500 || refused[kind] < 1500 {
			t.Error(kind, changed, refused)
		}
	}
}

// someGrows are mostly such as change a window that is played; their times go on.
func (s *steps) someGrows(n int) []impl.Grow {
	now := s.below(30)
	var l []impl.Grow
	for range n {
		now += s.below(3)
		g := impl.Grow{Kind: []int{1, 1, 1, 1, 1, 2, 2, 2, 3}[s.below(9)], Size: s.below(1501), Time: now - s.below(now+1)%9, Now: now}
		switch s.below(40) {
		case 0, 1:
			g = stalledGrow()
		case 2, 3, 4:
			g = s.someGrow()
		}
		l = append(l, g)
	}
	return l
}

func TestPlaysAtAnyArguments(t *testing.T) {
	var s steps
	many, passed, taken := 0, 0, 0
	for range 3000 {
		l := s.someGrows(s.below(104))
		if len(l) > 100 {
			many++
			if w, each, ok := impl.PlayWindow(l); w != (impl.Window{}) || len(each) != 0 || ok {
				t.Fatalf("%d of them: %+v %v %v", len(l), w, each, ok)
			}
			continue
		}
		want := window(12000, mostWindow, -1, 0)
		var sizes []int
		for _, g := range l {
			if next, ok := grownTold(want, g); ok {
				want = next
				taken++
			} else {
				passed++
			}
			sizes = append(sizes, want.Size)
		}
		wantPlay(t, l, want, sizes)
		if t.Failed() {
			t.FailNow()
		}
	}
	if many < 30 || passed < 5000 || taken < 50000 {
		t.Error(many, passed, taken)
	}
}

// wantOneStep holds a change against promise 13: growing is adding no more than was acknowledged; what is not a half, and did not stall, is no less.
func wantOneStep(t *testing.T, w impl.Window, g impl.Grow, next impl.Window) {
	t.Helper()
	if next.Size < twoDatagrams || next.Threshold < twoDatagrams || next.Size > mostWindow {
		t.Fatalf("%+v with %+v: %+v", w, g, next)
	}
	added := next.Size - w.Size
	switch {
	case g.Kind == 2:
		if added < 0 || added > g.Size || w.Size >= w.Threshold && 2*added > g.Size {
			t.Fatalf("%+v with %+v grew by %d", w, g, added)
		}
	case g.Kind == 3 && added != 0:
		if next.Size != w.Size/2 && (next.Size != twoDatagrams || w.Size >= 2*twoDatagrams) {
			t.Fatalf("%+v with %+v: %+v is no half", w, g, next)
		}
	case g.Kind == 4:
		if next.Size != twoDatagrams {
			t.Fatalf("%+v stalled: %+v", w, next)
		}
	case added != 0:
		t.Fatalf("%+v with %+v: %+v", w, g, next)
	}
}

// Promise 13: a window is never below two datagrams; it grows by addition and is halved once in a recovery.
// A recovery is watched apart from Start: it lasts as long as nothing is lost that was sent behind the loss it began with.
func TestWindowsAreHalvedOnceInARecovery(t *testing.T) {
	var s steps
	halves, spared, grown, still := 0, 0, 0, 0
	for range 300 {
		w, now := impl.NewWindow(), 0
		began := -1
		var onTheirWay []impl.Sent
		for range 300 {
			now += s.below(2)
			if room, _ := impl.RoomIn(w); room >= 1200 && s.below(5) < 3 {
				x := impl.Sent{Time: now, Size: 1 + s.below(1200)}
				w, _ = impl.SentBytes(w, x.Size)
				onTheirWay = append(onTheirWay, x)
				continue
			}
			if len(onTheirWay) == 0 {
				continue
			}
			at := s.below(len(onTheirWay))
			x := onTheirWay[at]
			onTheirWay = append(onTheirWay[:at], onTheirWay[at+1:]...)
			g := ackedGrow(x.Size, x.Time)
			if s.below(8) == 0 {
				g = lostGrow(x.Size, x.Time, now)
			}
			next, ok := callOf(w, g)
			if !ok {
				t.Fatalf("%+v with %+v is refused", w, g)
			}
			wantOneStep(t, w, g, next)
			switch within := x.Time <= began; {
			case within && next.Size != w.Size:
				t.Fatalf("%+v with %+v: %+v in the recovery of %d", w, g, next, began)
			case within && g.Kind == 3:
				spared++
			case within:
				still++
			case g.Kind == 3:
				halves++
				began = now
			case next.Size > w.Size:
				grown++
			}
			w = next
			if s.below(150) == 0 {
				w, _ = impl.StalledWindow(w)
				began = -1
			}
		}
		flight := 0
		for _, x := range onTheirWay {
			flight += x.Size
		}
		if w.Flight != flight {
			t.Fatalf("%+v: %d are in flight", w, flight)
		}
	}
	if halves < 500 || spared < 500 || grown < 5000 || still < 1000 {
		t.Error(halves, spared, grown, still)
	}
}

// A window that is acknowledged as a whole doubles below its threshold, and is about a datagram more from there on.
func TestWindowsGrowByAddition(t *testing.T) {
	for _, c := range [][4]int{ // Size, Threshold; the least and the greatest Size behind it
		{12000, mostWindow, 24000, 24000},
		{12000, 24000, 24000, 24000},
		{12000, 12000, 13100, 13200},
		{48000, twoDatagrams, 49150, 49200},
		{120000, twoDatagrams, 121050, 121200},
	} {
		w := window(c[0], c[1], 3, c[0])
		for range c[0] / 1200 {
			next, ok := impl.AckedBytes(w, 1200, 5)
			if !ok {
				t.Fatalf("%+v", w)
			}
			wantOneStep(t, w, ackedGrow(1200, 5), next)
			w = next
		}
		if w.Size < c[2] || w.Size > c[3] || w.Flight != 0 {
			t.Errorf("%v: %+v", c, w)
		}
	}
}

func TestWindowFunctionsChangeNoArgument(t *testing.T) {
	var s steps
	for range 4000 {
		w, g := s.someWindow(), s.someGrow()
		kept, keptGrow := w, g
		first, ok := callOf(w, g)
		again, okAgain := callOf(w, g)
		if w != kept || g != keptGrow || first != again || ok != okAgain {
			t.Fatalf("%+v with %+v: %+v %v, then %+v %v of %+v", kept, keptGrow, first, ok, again, okAgain, w)
		}
	}
}
