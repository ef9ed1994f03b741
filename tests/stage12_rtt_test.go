package tests

import (
	"fmt"
	"testing"

	"loop.example/g00206/impl"
)

const mostTick = 1000000000

// trip is a round trip that is Known.
func trip(latest, least, smooth, variance int) impl.Rtt {
	return impl.Rtt{Known: true, Latest: latest, Min: least, Smooth: smooth, Var: variance}
}

func wantSample(t *testing.T, r impl.Rtt, latest, delay int, want impl.Rtt) {
	t.Helper()
	if got, ok := impl.SampleRtt(r, latest, delay); got != want || !ok {
		t.Errorf("%+v with %d, delay %d: %+v %v, not %+v", r, latest, delay, got, ok, want)
	}
}

func wantNoSample(t *testing.T, r impl.Rtt, latest, delay int, why string) {
	t.Helper()
	if got, ok := impl.SampleRtt(r, latest, delay); got != (impl.Rtt{}) || ok {
		t.Errorf("%s: %+v with %d, delay %d: %+v %v", why, r, latest, delay, got, ok)
	}
}

func wantProbe(t *testing.T, r impl.Rtt, delay, tries, want int) {
	t.Helper()
	if got, ok := impl.ProbeTime(r, delay, tries); got != want || !ok {
		t.Errorf("%+v, delay %d, tries %d: %d %v, not %d", r, delay, tries, got, ok, want)
	}
}

func wantNoProbe(t *testing.T, r impl.Rtt, delay, tries int, why string) {
	t.Helper()
	if got, ok := impl.ProbeTime(r, delay, tries); got != 0 || ok {
		t.Errorf("%s: %+v, delay %d, tries %d: %d %v", why, r, delay, tries, got, ok)
	}
}

func goodTrips() []impl.Rtt {
	return []impl.Rtt{
		{},
		trip(0, 0, 0, 0),
		trip(1, 0, 0, 0),
		trip(1, 1, 0, 0),
		trip(60, 60, 95, 47),
		trip(90, 60, 2, 900),
		trip(mostTick, 0, 0, 0),
		trip(mostTick, mostTick, 0, 0),
		trip(0, 0, mostTick, 0),
		trip(0, 0, 0, mostTick),
		trip(mostTick, mostTick, mostTick, mostTick),
	}
}

// noTrips are round trips that are not good, by what is wrong with them.
func noTrips() map[string]impl.Rtt {
	l := map[string]impl.Rtt{
		"Min above Latest":             trip(4, 5, 9, 9),
		"Min above Latest of nought":   trip(0, 1, 0, 0),
		"Min above the greatest":       trip(mostTick, mostTick+1, 0, 0),
		"both above the greatest":      trip(mostTick+1, mostTick+1, 0, 0),
		"both below nought":            trip(-1, -1, 0, 0),
		"all four without Known":       {Latest: 5, Min: 5, Smooth: 5, Var: 2},
		"a good one, but not Known":    {Latest: 60, Min: 60, Smooth: 95, Var: 47},
		"all below nought, not Known":  {Latest: -1, Min: -1, Smooth: -1, Var: -1},
		"of great numbers, not Known":  {Latest: maxInt, Min: minInt},
		"of great numbers":             trip(maxInt, minInt, maxInt, maxInt),
		"from the least to the most":   trip(maxInt, 0, 0, 0),
		"all of them the greatest int": trip(maxInt, maxInt, maxInt, maxInt),
	}
	for _, n := range []int{-1, 1, mostTick, mostTick + 1, minInt, maxInt} {
		l[fmt.Sprint("not Known, Latest ", n)] = impl.Rtt{Latest: n}
		l[fmt.Sprint("not Known, Min ", n)] = impl.Rtt{Min: n}
		l[fmt.Sprint("not Known, Smooth ", n)] = impl.Rtt{Smooth: n}
		l[fmt.Sprint("not Known, Var ", n)] = impl.Rtt{Var: n}
	}
	for _, n := range []int{-1, mostTick + 1, minInt, maxInt} {
		l[fmt.Sprint("Latest ", n)] = trip(n, 0, 5, 5)
		l[fmt.Sprint("Min ", n)] = trip(5, n, 5, 5)
		l[fmt.Sprint("Smooth ", n)] = trip(5, 5, n, 5)
		l[fmt.Sprint("Var ", n)] = trip(5, 5, 5, n)
	}
	return l
}

// noTicks are no times of this chapter.
func noTicks() []int {
	return []int{-1, -2, mostTick + 1, mostTick + 2, minInt, maxInt}
}

func TestTripsThatAreNotGood(t *testing.T) {
	for why, r := range noTrips() {
		for _, n := range []int{-1, 0, 1, 5, mostTick} {
			wantNoSample(t, r, n, 0, why)
			wantNoSample(t, r, 5, n, why)
			wantNoProbe(t, r, n, 0, why)
			wantNoProbe(t, r, 0, n, why)
		}
		wantNoSpace(t, impl.Space{Largest: -1, Rtt: r}, why)
	}
}

func TestTimesThatAreNone(t *testing.T) {
	for _, r := range goodTrips() {
		for _, n := range noTicks() {
			wantNoSample(t, r, n, 0, "no time")
			wantNoSample(t, r, 0, n, "no delay")
			wantNoSample(t, r, n, n, "neither")
			wantNoProbe(t, r, n, 0, "no delay")
			wantNoProbe(t, r, n, 10, "no delay")
		}
		for _, tries := range []int{-1, -2, 11, 12, 63, 64, minInt, maxInt} {
			wantNoProbe(t, r, 0, tries, "no tries")
			wantNoProbe(t, r, mostTick, tries, "no tries")
		}
	}
}

// Nothing is known before the first sample, and of its delay nothing is taken off.
func TestFirstSamples(t *testing.T) {
	for latest, half := range map[int]int{0: 0, 1: 0, 2: 1, 3: 1, 4: 2, 100: 50, 101: 50, mostTick - 1: 499999999, mostTick: 500000000} {
		for _, delay := range []int{0, 1, 7, 99, 100, 101, mostTick} {
			wantSample(t, impl.Rtt{}, latest, delay, trip(latest, latest, latest, half))
		}
	}
}

// The answers were reckoned by Python's fractions.
func TestSamplesKnown(t *testing.T) {
	for _, c := range [][10]int{ // Latest, Min, Smooth, Var; latest, delay; Latest, Min, Smooth, Var
		// latest above, at and below Min
		{120, 100, 110, 20, 150, 0, 150, 100, 115, 25},
		{120, 100, 110, 20, 101, 0, 101, 100, 108, 17},
		{120, 100, 110, 20, 100, 0, 100, 100, 108, 17},
		{120, 100, 110, 20, 99, 0, 99, 99, 108, 17},
		{120, 100, 110, 20, 60, 0, 60, 60, 103, 27},
		{120, 100, 110, 20, 1, 0, 1, 1, 96, 42},
		{120, 100, 110, 20, 0, 0, 0, 0, 96, 42},
		// latest less delay above, at and below Min
		{120, 100, 110, 20, 150, 1, 150, 100, 114, 24},
		{120, 100, 110, 20, 150, 49, 150, 100, 108, 17},
		{120, 100, 110, 20, 150, 50, 150, 100, 108, 17},
		{120, 100, 110, 20, 150, 51, 150, 100, 115, 25},
		{120, 100, 110, 20, 150, 149, 150, 100, 115, 25},
		{120, 100, 110, 20, 150, 150, 150, 100, 115, 25},
		{120, 100, 110, 20, 150, 151, 150, 100, 115, 25},
		{120, 100, 110, 20, 150, mostTick, 150, 100, 115, 25},
		{120, 100, 110, 20, 100, 1, 100, 100, 108, 17},
		{120, 100, 110, 20, 100, 10, 100, 100, 108, 17},
		{120, 100, 110, 20, 100, mostTick, 100, 100, 108, 17},
		{120, 100, 110, 20, 60, 1, 60, 60, 103, 27},
		{120, 100, 110, 20, 60, 40, 60, 60, 103, 27},
		{120, 100, 110, 20, 60, 60, 60, 60, 103, 27},
		{120, 100, 110, 20, 60, 61, 60, 60, 103, 27},
		// Smooth above and below what was seen
		{120, 100, 0, 20, 150, 0, 150, 100, 18, 52},
		{120, 100, 1, 20, 150, 0, 150, 100, 19, 52},
		{120, 100, 149, 20, 150, 0, 150, 100, 149, 15},
		{120, 100, 150, 20, 150, 0, 150, 100, 150, 15},
		{120, 100, 151, 20, 150, 0, 150, 100, 150, 15},
		{120, 100, 300, 20, 150, 0, 150, 100, 281, 52},
		{120, 100, mostTick, 20, 150, 0, 150, 100, 875000018, 249999977},
		// divisions go down
		{120, 100, 150, 0, 150, 0, 150, 100, 150, 0},
		{120, 100, 150, 1, 150, 0, 150, 100, 150, 0},
		{120, 100, 150, 2, 150, 0, 150, 100, 150, 1},
		{120, 100, 150, 3, 150, 0, 150, 100, 150, 2},
		{120, 100, 150, 4, 150, 0, 150, 100, 150, 3},
		{120, 100, 142, 0, 150, 0, 150, 100, 143, 2},
		{120, 100, 143, 0, 150, 0, 150, 100, 143, 1},
		{120, 100, 144, 0, 150, 0, 150, 100, 144, 1},
		{120, 100, 145, 0, 150, 0, 150, 100, 145, 1},
		{120, 100, 146, 0, 150, 0, 150, 100, 146, 1},
		{120, 100, 147, 0, 150, 0, 150, 100, 147, 0},
		{120, 100, 148, 0, 150, 0, 150, 100, 148, 0},
		{120, 100, 151, 0, 150, 0, 150, 100, 150, 0},
		{120, 100, 152, 0, 150, 0, 150, 100, 151, 0},
		{120, 100, 154, 0, 150, 0, 150, 100, 153, 1},
		{120, 100, 157, 0, 150, 0, 150, 100, 156, 1},
		{120, 100, 158, 0, 150, 0, 150, 100, 157, 2},
		{120, 100, 159, 0, 150, 0, 150, 100, 157, 2},
		// the ends of all times
		{0, 0, 0, 0, 0, 0, 0, 0, 0, 0},
		{0, 0, 0, 0, mostTick, 0, mostTick, 0, 125000000, 250000000},
		{0, 0, 0, 0, mostTick, mostTick, mostTick, 0, 0, 0},
		{0, 0, 0, 0, mostTick, mostTick - 1, mostTick, 0, 0, 0},
		{mostTick, mostTick, mostTick, mostTick, mostTick, 0, mostTick, mostTick, mostTick, 750000000},
		{mostTick, mostTick, mostTick, mostTick, mostTick, mostTick, mostTick, mostTick, mostTick, 750000000},
		{mostTick, mostTick, mostTick, mostTick, 0, 0, 0, 0, 875000000, mostTick},
		{mostTick, 0, mostTick, mostTick, mostTick, mostTick, mostTick, 0, 875000000, mostTick},
		{mostTick, mostTick, 0, mostTick, mostTick, 0, mostTick, mostTick, 125000000, mostTick},
		{mostTick, 0, 0, mostTick, mostTick, 0, mostTick, 0, 125000000, mostTick},
	} {
		wantSample(t, trip(c[0], c[1], c[2], c[3]), c[4], c[5], trip(c[6], c[7], c[8], c[9]))
	}
}

// What was Latest does not count: only Min, Smooth and Var are remembered.
func TestSamplesForgetTheLatest(t *testing.T) {
	for _, was := range []int{100, 101, 150, 9999, mostTick} {
		wantSample(t, trip(was, 100, 110, 20), 150, 50, trip(150, 100, 108, 17))
	}
}

func TestSamplesInARow(t *testing.T) {
	r := impl.Rtt{}
	for _, c := range []struct {
		latest, delay int
		want          impl.Rtt
	}{
		{100, 30, trip(100, 100, 100, 50)},
		{100, 0, trip(100, 100, 100, 37)},
		{180, 20, trip(180, 100, 107, 42)},
		{120, 20, trip(120, 100, 106, 33)},
		{40, 20, trip(40, 40, 97, 41)},
		{40, 0, trip(40, 40, 89, 45)},
		{60, 20, trip(60, 40, 82, 46)},
		{60, 21, trip(60, 40, 79, 40)},
	} {
		wantSample(t, r, c.latest, c.delay, c.want)
		r = c.want
	}
}

func TestProbesKnown(t *testing.T) {
	for _, c := range []struct {
		r                  impl.Rtt
		delay, tries, want int
	}{
		{trip(60, 60, 95, 47), 5, 0, 288},
		{trip(60, 60, 95, 47), 5, 1, 576},
		{trip(60, 60, 95, 47), 0, 0, 283},
		{trip(60, 60, 95, 47), mostTick, 0, 1000000283},
		// 4 Var below 1 (a Var of 0), and above; no whole number makes it 1
		{trip(60, 60, 95, 0), 0, 0, 96},
		{trip(60, 60, 95, 1), 0, 0, 99},
		{trip(60, 60, 95, 2), 0, 0, 103},
		{trip(60, 60, 0, 0), 0, 0, 1},
		{trip(60, 60, 0, 0), 7, 0, 8},
		{trip(60, 60, 0, 0), 0, 10, 1024},
		{trip(60, 60, 0, 1), 0, 0, 4},
		// neither Latest nor Min counts
		{trip(0, 0, 95, 47), 5, 0, 288},
		{trip(mostTick, 3, 95, 47), 5, 0, 288},
		// the ends of all times
		{trip(mostTick, mostTick, mostTick, mostTick), mostTick, 0, 6000000000},
		{trip(mostTick, mostTick, mostTick, mostTick), mostTick, 10, 6144000000000},
		{trip(0, 0, 0, mostTick), 0, 0, 4000000000},
		{trip(0, 0, mostTick, 0), 0, 0, 1000000001},
	} {
		wantProbe(t, c.r, c.delay, c.tries, c.want)
	}
}

func TestProbesOfEachTry(t *testing.T) {
	for tries, power := range []int{1, 2, 4, 8, 16, 32, 64, 128, 256, 512, 1024} {
		wantProbe(t, trip(60, 60, 95, 47), 5, tries, 288*power)
		wantProbe(t, trip(60, 60, 0, 0), 0, tries, power)
		// As long as nothing is known the delay does not count.
		for _, delay := range []int{0, 1, 25, mostTick} {
			wantProbe(t, impl.Rtt{}, delay, tries, 1000*power)
		}
	}
}
