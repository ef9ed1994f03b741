package tests

import (
	"testing"

	"loop.example/g00206/impl"
)

func TestSentBytes(t *testing.T) {
	for _, c := range [][3]int{ // Size, Flight, size
		{12000, 0, 0},
		{12000, 0, 1},
		{12000, 0, 1200},
		{12000, 0, 1499},
		{12000, 0, 1500},
		{12000, 5000, 1200},
		// below Size by one, and at it
		{12000, 10800, 1199},
		{12000, 10800, 1200},
		{12000, 11999, 0},
		{12000, 11999, 1},
		{12000, 12000, 0},
		{twoDatagrams, 900, 1499},
		{twoDatagrams, 900, 1500},
		{mostWindow, mostWindow - 1500, 1500},
		{mostWindow, mostWindow - 1, 1},
		{mostWindow, mostWindow, 0},
	} {
		for _, threshold := range []int{twoDatagrams, 12000, mostWindow} {
			for _, start := range []int{-1, 0, mostTick} {
				wantSentBytes(t, window(c[0], threshold, start, c[1]), c[2], window(c[0], threshold, start, c[1]+c[2]))
			}
		}
	}
}

func TestSentBytesThatFindNoRoom(t *testing.T) {
	for _, c := range [][3]int{ // Size, Flight, size
		{12000, 10800, 1201},
		{12000, 10800, 1500},
		{12000, 11999, 2},
		{12000, 12000, 1},
		// a window that was halved is too small already
		{12000, 12001, 0},
		{12000, 12001, 1},
		{12000, mostWindow, 0},
		{twoDatagrams, 901, 1500},
		{twoDatagrams, mostWindow, 1500},
		{mostWindow, mostWindow - 1499, 1500},
		{mostWindow, mostWindow, 1},
		{mostWindow - 1, mostWindow, 0},
	} {
		for _, start := range []int{-1, 0, mostTick} {
			wantNoSentBytes(t, window(c[0], mostWindow, start, c[1]), c[2], "no room")
		}
	}
}

func TestSizesThatAreNone(t *testing.T) {
	for _, w := range goodWindows() {
		for _, n := range noSizes() {
			wantNoSentBytes(t, w, n, "size")
			wantNoAckedBytes(t, w, n, 5, "size")
			wantNoLostBytes(t, w, n, 5, 9, "size")
		}
	}
}

func TestTimesThatAreNoneOfAWindow(t *testing.T) {
	for _, w := range goodWindows() {
		for _, n := range noTicks() {
			for _, size := range []int{0, 1} {
				wantNoAckedBytes(t, w, size, n, "time")
				wantNoLostBytes(t, w, size, n, 9, "time")
				wantNoLostBytes(t, w, size, 0, n, "now")
				wantNoLostBytes(t, w, size, mostTick, n, "now")
				wantNoLostBytes(t, w, size, n, n, "time and now")
			}
		}
	}
}

// All sizes and times are taken up to their ends.
func TestSizesAndTimesAtTheirEnds(t *testing.T) {
	for _, size := range []int{0, 1, 1499, 1500} {
		w := window(12000, mostWindow, -1, 1500)
		wantSentBytes(t, w, size, window(12000, mostWindow, -1, 1500+size))
		for _, time := range []int{0, 1, mostTick - 1, mostTick} {
			wantAckedBytes(t, w, size, time, window(12000+size, mostWindow, -1, 1500-size))
			for _, now := range []int{0, 1, mostTick - 1, mostTick} {
				wantLostBytes(t, w, size, time, now, window(6000, 6000, now, 1500-size))
			}
		}
	}
}

func TestAckedBytesGrow(t *testing.T) {
	for _, c := range [][4]int{ // Size, Threshold, size; Size
		// below Threshold, and beyond it at once
		{12000, mostWindow, 0, 12000},
		{12000, mostWindow, 1, 12001},
		{12000, mostWindow, 1500, 13500},
		{twoDatagrams, mostWindow, 1500, 3900},
		{twoDatagrams, twoDatagrams + 1, 1500, 3900},
		{11999, 12000, 1, 12000},
		{11999, 12000, 2, 12001},
		{11999, 12000, 1000, 12999},
		{11999, 12000, 1500, 13499},
		// at Threshold, and above
		{12000, 12000, 0, 12000},
		{12000, 12000, 1000, 12100},
		{12000, 12000, 1500, 12150},
		{12001, 12000, 1000, 12100},
		{12001, 12000, 1200, 12120},
		{12000, twoDatagrams, 1000, 12100},
		{twoDatagrams, twoDatagrams, 1, 2400},
		{twoDatagrams, twoDatagrams, 2, 2401},
		{twoDatagrams, twoDatagrams, 3, 2401},
		{twoDatagrams, twoDatagrams, 1200, 3000},
		{twoDatagrams, twoDatagrams, 1500, 3150},
		{2401, twoDatagrams, 1500, 3150},
		// the division goes down
		{12000, 12000, 9, 12000},
		{12000, 12000, 10, 12001},
		{12000, 12000, 11, 12001},
		{12000, 12000, 19, 12001},
		{12000, 12000, 20, 12002},
		{7000, 5000, 7, 7001},
		{7000, 5000, 11, 7001},
		{7000, 5000, 12, 7002},
		{1440000, twoDatagrams, 1199, 1440000},
		{1440000, twoDatagrams, 1200, 1440001},
		{1799999, twoDatagrams, 1500, 1800000},
		{1800000, twoDatagrams, 1499, 1800000},
		{1800000, twoDatagrams, 1500, 1800001},
		{1800001, twoDatagrams, 1500, 1800001},
		// steps from MaxWindow, and at it
		{mostWindow - 1501, mostWindow, 1500, mostWindow - 1},
		{mostWindow - 1500, mostWindow, 1500, mostWindow},
		{mostWindow - 1499, mostWindow, 1500, mostWindow},
		{mostWindow - 1, mostWindow, 0, mostWindow - 1},
		{mostWindow - 1, mostWindow, 1, mostWindow},
		{mostWindow - 1, mostWindow, 2, mostWindow},
		{mostWindow - 1, mostWindow, 1500, mostWindow},
		{mostWindow - 1, mostWindow - 1, 1500, mostWindow - 1},
		{mostWindow, mostWindow, 1, mostWindow},
		{mostWindow, mostWindow, 1500, mostWindow},
		{mostWindow, twoDatagrams, 1500, mostWindow},
	} {
		for _, flight := range []int{c[2], c[2] + 1, 12000, mostWindow} {
			wantAckedBytes(t, window(c[0], c[1], -1, flight), c[2], 5, window(c[3], c[1], -1, flight-c[2]))
			wantAckedBytes(t, window(c[0], c[1], 4, flight), c[2], 5, window(c[3], c[1], 4, flight-c[2]))
			// What was sent ahead of the recovery leaves, and nothing grows.
			wantAckedBytes(t, window(c[0], c[1], 5, flight), c[2], 5, window(c[0], c[1], 5, flight-c[2]))
		}
	}
}

// A window that is full or too small for what is in flight grows as any other one.
func TestAckedBytesOfWhatThereIsNoRoomFor(t *testing.T) {
	wantAckedBytes(t, window(6000, mostWindow, -1, 6000), 1200, 5, window(7200, mostWindow, -1, 4800))
	wantAckedBytes(t, window(6000, mostWindow, -1, 12000), 1200, 5, window(7200, mostWindow, -1, 10800))
	wantAckedBytes(t, window(6000, 6000, 4, 12000), 1200, 5, window(6240, 6000, 4, 10800))
}

func TestAckedBytesOfEachTime(t *testing.T) {
	for _, c := range []struct {
		start, time int
		grows       bool
	}{
		{-1, 0, true}, {-1, mostTick, true},
		{0, 0, false}, {0, 1, true}, {0, mostTick, true},
		{7, 0, false}, {7, 6, false}, {7, 7, false}, {7, 8, true}, {7, mostTick, true},
		{mostTick - 1, mostTick - 2, false}, {mostTick - 1, mostTick - 1, false}, {mostTick - 1, mostTick, true},
		{mostTick, 0, false}, {mostTick, mostTick - 1, false}, {mostTick, mostTick, false},
	} {
		below, above := 12000, 12000
		if c.grows {
			below, above = 13000, 12100
		}
		wantAckedBytes(t, window(12000, mostWindow, c.start, 1700), 1000, c.time, window(below, mostWindow, c.start, 700))
		wantAckedBytes(t, window(12000, 12000, c.start, 1700), 1000, c.time, window(above, 12000, c.start, 700))
	}
}

// Less in flight than leaves is refused, in a recovery too; all of it, and more than it, is not.
func TestWhatLeavesIsInFlight(t *testing.T) {
	for _, size := range []int{1, 2, 1200, 1500} {
		for _, start := range []int{-1, 4, 5, mostTick} {
			for _, flight := range []int{0, size - 1} {
				wantNoAckedBytes(t, window(12000, mostWindow, start, flight), size, 5, "more than Flight")
				wantNoLostBytes(t, window(12000, mostWindow, start, flight), size, 5, 9, "more than Flight")
			}
			for _, flight := range []int{size, size + 1, 12000, 12001, mostWindow} {
				w := window(12000, mostWindow, start, flight)
				left := window(12000, mostWindow, start, flight-size)
				if start >= 5 {
					wantAckedBytes(t, w, size, 5, left)
					wantLostBytes(t, w, size, 5, 9, left)
					continue
				}
				left.Size = 12000 + size
				wantAckedBytes(t, w, size, 5, left)
				wantLostBytes(t, w, size, 5, 9, window(6000, 6000, 9, flight-size))
			}
		}
	}
	wantAckedBytes(t, window(12000, mostWindow, -1, 0), 0, 5, window(12000, mostWindow, -1, 0))
	wantLostBytes(t, window(12000, mostWindow, -1, 0), 0, 5, 9, window(6000, 6000, 9, 0))
}

func TestLostBytesHalve(t *testing.T) {
	for _, c := range [][2]int{ // Size; Size
		{mostWindow, 50000000},
		{mostWindow - 1, 49999999},
		{13000, 6500},
		{12001, 6000},
		{12000, 6000},
		{11999, 5999},
		// half of it above, at and below two datagrams
		{4803, 2401},
		{4802, 2401},
		{4801, 2400},
		{4800, 2400},
		{4799, 2400},
		{4798, 2400},
		{3600, 2400},
		{twoDatagrams + 1, 2400},
		{twoDatagrams, 2400},
	} {
		// Whatever Threshold was.
		for _, threshold := range []int{twoDatagrams, 6000, 12000, mostWindow} {
			for _, flight := range []int{300, 12000, mostWindow} {
				wantLostBytes(t, window(c[0], threshold, -1, flight), 300, 5, 9, window(c[1], c[1], 9, flight-300))
				wantLostBytes(t, window(c[0], threshold, 4, flight), 300, 5, 9, window(c[1], c[1], 9, flight-300))
				wantLostBytes(t, window(c[0], threshold, 5, flight), 300, 5, 9, window(c[0], threshold, 5, flight-300))
			}
		}
	}
}

func TestLostBytesOfEachTime(t *testing.T) {
	for _, c := range []struct {
		start, time int
		halves      bool
	}{
		{-1, 0, true}, {-1, mostTick, true},
		{0, 0, false}, {0, 1, true}, {0, mostTick, true},
		{7, 0, false}, {7, 6, false}, {7, 7, false}, {7, 8, true}, {7, mostTick, true},
		{mostTick - 1, mostTick - 2, false}, {mostTick - 1, mostTick - 1, false}, {mostTick - 1, mostTick, true},
		{mostTick, 0, false}, {mostTick, mostTick - 1, false}, {mostTick, mostTick, false},
	} {
		// Now is only written down: it may lie below the time and below Start.
		for _, now := range []int{0, 1, 6, 7, 8, 9, mostTick - 1, mostTick} {
			want := window(12000, 9000, c.start, 700)
			if c.halves {
				want = window(6000, 6000, now, 700)
			}
			wantLostBytes(t, window(12000, 9000, c.start, 1700), 1000, c.time, now, want)
		}
	}
}

// Promise 13: a window is halved once in a recovery, and again behind it.
func TestLossesOfOneRecovery(t *testing.T) {
	w := window(16000, mostWindow, -1, 9000)
	for _, c := range []struct {
		time, now int
		want      impl.Window
	}{
		{6, 9, window(8000, 8000, 9, 8000)},
		// sent ahead of the recovery's start, or at it, whenever it is missed
		{5, 9, window(8000, 8000, 9, 7000)},
		{9, 10, window(8000, 8000, 9, 6000)},
		{0, mostTick, window(8000, 8000, 9, 5000)},
		// behind it
		{10, 14, window(4000, 4000, 14, 4000)},
		{14, 14, window(4000, 4000, 14, 3000)},
		{10, 20, window(4000, 4000, 14, 2000)},
		{15, 15, window(2400, 2400, 15, 1000)},
		{16, 16, window(2400, 2400, 16, 0)},
	} {
		wantLostBytes(t, w, 1000, c.time, c.now, c.want)
		w = c.want
	}
}

// A new beginning: what was sent ahead of the recovery that is over so counts again.
func TestLossesBehindAStall(t *testing.T) {
	w, _ := impl.LostBytes(window(16000, mostWindow, -1, 9000), 1000, 6, 9)
	w, _ = impl.StalledWindow(w)
	if w != window(twoDatagrams, 8000, -1, 8000) {
		t.Fatalf("%+v", w)
	}
	wantAckedBytes(t, w, 1000, 5, window(3400, 8000, -1, 7000))
	wantLostBytes(t, w, 1000, 5, 11, window(twoDatagrams, twoDatagrams, 11, 7000))
}
