package tests

import (
	"testing"

	"loop.example/g00206/impl"
)

const mostWindow = 100000000
const twoDatagrams = 2400

func window(size, threshold, start, flight int) impl.Window {
	return impl.Window{Size: size, Threshold: threshold, Start: start, Flight: flight}
}

// noSizes are no sizes of this chapter.
func noSizes() []int {
	return []int{-1, -2, 1501, 1502, minInt, maxInt, minInt + 1, maxInt - 1}
}

func noWidths() []int {
	return []int{twoDatagrams - 1, twoDatagrams - 2, 1200, 1, 0, -1, mostWindow + 1, mostWindow + 2, minInt, maxInt}
}

func goodWindows() []impl.Window {
	var l []impl.Window
	for _, size := range []int{twoDatagrams, twoDatagrams + 1, 12000, mostWindow - 1, mostWindow} {
		for _, threshold := range []int{twoDatagrams, twoDatagrams + 1, 12000, mostWindow - 1, mostWindow} {
			for _, start := range []int{-1, 0, 1, mostTick - 1, mostTick} {
				for _, flight := range []int{0, 1, 12000, mostWindow - 1, mostWindow} {
					l = append(l, window(size, threshold, start, flight))
				}
			}
		}
	}
	return l
}

func wantSentBytes(t *testing.T, w impl.Window, size int, want impl.Window) {
	t.Helper()
	if got, ok := impl.SentBytes(w, size); got != want || !ok {
		t.Errorf("%+v, %d sent: %+v %v, not %+v", w, size, got, ok, want)
	}
}

func wantNoSentBytes(t *testing.T, w impl.Window, size int, why string) {
	t.Helper()
	if got, ok := impl.SentBytes(w, size); got != (impl.Window{}) || ok {
		t.Errorf("%s: %+v, %d sent: %+v %v", why, w, size, got, ok)
	}
}

func wantAckedBytes(t *testing.T, w impl.Window, size, time int, want impl.Window) {
	t.Helper()
	if got, ok := impl.AckedBytes(w, size, time); got != want || !ok {
		t.Errorf("%+v, %d acked of %d: %+v %v, not %+v", w, size, time, got, ok, want)
	}
}

func wantNoAckedBytes(t *testing.T, w impl.Window, size, time int, why string) {
	t.Helper()
	if got, ok := impl.AckedBytes(w, size, time); got != (impl.Window{}) || ok {
		t.Errorf("%s: %+v, %d acked of %d: %+v %v", why, w, size, time, got, ok)
	}
}

func wantLostBytes(t *testing.T, w impl.Window, size, time, now int, want impl.Window) {
	t.Helper()
	if got, ok := impl.LostBytes(w, size, time, now); got != want || !ok {
		t.Errorf("%+v, %d lost of %d at %d: %+v %v, not %+v", w, size, time, now, got, ok, want)
	}
}

func wantNoLostBytes(t *testing.T, w impl.Window, size, time, now int, why string) {
	t.Helper()
	if got, ok := impl.LostBytes(w, size, time, now); got != (impl.Window{}) || ok {
		t.Errorf("%s: %+v, %d lost of %d at %d: %+v %v", why, w, size, time, now, got, ok)
	}
}

func wantStalled(t *testing.T, w impl.Window, want impl.Window) {
	t.Helper()
	if got, ok := impl.StalledWindow(w); got != want || !ok {
		t.Errorf("%+v stalled: %+v %v, not %+v", w, got, ok, want)
	}
}

func wantRoom(t *testing.T, w impl.Window, want int) {
	t.Helper()
	if got, ok := impl.RoomIn(w); got != want || !ok {
		t.Errorf("%+v: room for %d %v, not %d", w, got, ok, want)
	}
}

// wantNoWindow holds all functions that take a window: none of them answers anything of one that is not good.
func wantNoWindow(t *testing.T, w impl.Window, why string) {
	t.Helper()
	if impl.GoodWindow(w) {
		t.Errorf("%s: %+v is good", why, w)
	}
	for _, size := range []int{-1, 0, 1, 1200, 1500, 1501} {
		wantNoSentBytes(t, w, size, why)
		for _, time := range []int{-1, 0, 10, mostTick, mostTick + 1} {
			wantNoAckedBytes(t, w, size, time, why)
			wantNoLostBytes(t, w, size, time, 20, why)
			wantNoLostBytes(t, w, size, 20, time, why)
		}
	}
	if got, ok := impl.StalledWindow(w); got != (impl.Window{}) || ok {
		t.Errorf("%s: %+v stalled: %+v %v", why, w, got, ok)
	}
	if got, ok := impl.RoomIn(w); got != 0 || ok {
		t.Errorf("%s: %+v: room for %d %v", why, w, got, ok)
	}
}

func TestWindowConstants(t *testing.T) {
	if impl.DatagramSize != 1200 || impl.MaxWindow != mostWindow {
		t.Error(impl.DatagramSize, impl.MaxWindow)
	}
	kinds := [4]int{impl.GrowSent, impl.GrowAcked, impl.GrowLost, impl.GrowStalled}
	if kinds != [4]int{1, 2, 3, 4} {
		t.Error(kinds)
	}
}

func TestNewWindow(t *testing.T) {
	w := impl.NewWindow()
	if w != (impl.Window{Size: 12000, Threshold: 100000000, Start: -1, Flight: 0}) {
		t.Errorf("%+v", w)
	}
	if !impl.GoodWindow(w) {
		t.Errorf("%+v is not good", w)
	}
	wantRoom(t, w, 12000)
}

func TestWindowsThatAreGood(t *testing.T) {
	for _, w := range goodWindows() {
		if !impl.GoodWindow(w) {
			t.Errorf("%+v is not good", w)
		}
		wantStalled(t, w, window(twoDatagrams, w.Threshold, -1, w.Flight))
	}
}

func TestWindowsThatAreNotGood(t *testing.T) {
	wantNoWindow(t, impl.Window{}, "the zero window")
	wantNoWindow(t, window(-1, -1, -1, -1), "all of them -1")
	wantNoWindow(t, window(maxInt, maxInt, maxInt, maxInt), "all of them the greatest int")
	wantNoWindow(t, window(minInt, minInt, minInt, minInt), "all of them the least int")
	for _, w := range []impl.Window{impl.NewWindow(), window(twoDatagrams, mostWindow, 5, 2000), window(mostWindow, twoDatagrams, mostTick, mostWindow)} {
		for _, n := range noWidths() {
			bad := w
			bad.Size = n
			wantNoWindow(t, bad, "Size")
			bad = w
			bad.Threshold = n
			wantNoWindow(t, bad, "Threshold")
		}
		for _, n := range []int{-2, -3, mostTick + 1, mostTick + 2, minInt, maxInt} {
			bad := w
			bad.Start = n
			wantNoWindow(t, bad, "Start")
		}
		for _, n := range []int{-1, -2, mostWindow + 1, mostWindow + 2, minInt, maxInt} {
			bad := w
			bad.Flight = n
			wantNoWindow(t, bad, "Flight")
		}
	}
}

func TestRoom(t *testing.T) {
	for _, c := range [][3]int{ // Size, Flight; room
		{12000, 0, 12000},
		{12000, 1, 11999},
		{12000, 11998, 2},
		{12000, 11999, 1},
		{12000, 12000, 0},
		{12000, 12001, 0},
		{12000, mostWindow, 0},
		{twoDatagrams, 0, twoDatagrams},
		{twoDatagrams, twoDatagrams, 0},
		{twoDatagrams, twoDatagrams + 1, 0},
		{mostWindow, 0, mostWindow},
		{mostWindow, mostWindow - 1, 1},
		{mostWindow, mostWindow, 0},
	} {
		for _, threshold := range []int{twoDatagrams, 12000, mostWindow} {
			for _, start := range []int{-1, 0, mostTick} {
				wantRoom(t, window(c[0], threshold, start, c[1]), c[2])
			}
		}
	}
}

// What there is room for can be sent, and not a byte more.
func TestRoomIsWhatCanBeSent(t *testing.T) {
	for _, w := range goodWindows() {
		room, _ := impl.RoomIn(w)
		if room <= 1500 && w.Flight <= w.Size {
			wantSentBytes(t, w, room, window(w.Size, w.Threshold, w.Start, w.Flight+room))
		}
		if room < 1500 {
			wantNoSentBytes(t, w, room+1, "no room")
		}
	}
}

func TestStalled(t *testing.T) {
	for _, c := range []struct{ w, want impl.Window }{
		{impl.NewWindow(), window(twoDatagrams, mostWindow, -1, 0)},
		{window(12000, 9000, -1, 7000), window(twoDatagrams, 9000, -1, 7000)},
		// in a recovery
		{window(12000, 12000, 0, 7000), window(twoDatagrams, 12000, -1, 7000)},
		{window(12000, 9000, 7, 7000), window(twoDatagrams, 9000, -1, 7000)},
		{window(12000, 9000, mostTick, 7000), window(twoDatagrams, 9000, -1, 7000)},
		// Flight stays, though there is no room for it
		{window(mostWindow, mostWindow, 7, mostWindow), window(twoDatagrams, mostWindow, -1, mostWindow)},
		// nothing becomes of what has stalled already
		{window(twoDatagrams, twoDatagrams, -1, 0), window(twoDatagrams, twoDatagrams, -1, 0)},
		{window(twoDatagrams, mostWindow, -1, 3), window(twoDatagrams, mostWindow, -1, 3)},
	} {
		wantStalled(t, c.w, c.want)
		wantStalled(t, c.want, c.want)
	}
}
