package tests

import (
	"slices"
	"testing"

	"loop.example/g00206/impl"
)

func wantAck(t *testing.T, s impl.Space, l []impl.Range, now, delay int, want impl.Space, acked, lost []int) {
	t.Helper()
	kept, keptRanges := keptSpace(s), slices.Clone(l)
	got, gotAcked, gotLost, ok := impl.TakeAck(s, l, now, delay)
	if !sameSpace(got, want) || !slices.Equal(gotAcked, acked) || !slices.Equal(gotLost, lost) || !ok {
		t.Errorf("%+v takes %v at %d, delay %d: %+v, acked %v, lost %v, %v; not %+v, %v, %v", s, l, now, delay, got, gotAcked, gotLost, ok, want, acked, lost)
	}
	wantKeptSpace(t, "TakeAck", s, kept)
	wantKeptRanges(t, "TakeAck", l, keptRanges)
}

func wantNoAck(t *testing.T, s impl.Space, l []impl.Range, now, delay int, why string) {
	t.Helper()
	if got, acked, lost, ok := impl.TakeAck(s, l, now, delay); !sameSpace(got, impl.Space{}) || len(acked) != 0 || len(lost) != 0 || ok {
		t.Errorf("%s: %+v takes %v at %d, delay %d: %+v, acked %v, lost %v, %v", why, s, l, now, delay, got, acked, lost, ok)
	}
}

// five were sent at once, and nothing is known yet.
func five() impl.Space {
	return spaceOf(-1, "0@0 1@0 2@0 3@0 4@0", impl.Rtt{})
}

func TestAcksOfAllSomeAndNone(t *testing.T) {
	// A round trip of 10 is waited for 11, so that none is lost for its time.
	known := trip(10, 10, 10, 5)
	all := []int{0, 1, 2, 3, 4}
	wantAck(t, five(), spans("0..4"), 10, 0, spaceOf(4, "", known), all, nil)
	wantAck(t, five(), spans("4 2 0..0"), 10, 0, spaceOf(4, "3@0", known), []int{0, 2, 4}, []int{1})
	wantAck(t, five(), spans("4"), 10, 0, spaceOf(4, "2@0 3@0", known), []int{4}, []int{0, 1})
	wantAck(t, five(), spans("3 1"), 10, 0, spaceOf(3, "2@0 4@0", known), []int{1, 3}, []int{0})
	wantAck(t, five(), spans("2"), 10, 0, spaceOf(2, "0@0 1@0 3@0 4@0", known), []int{2}, nil)
	wantAck(t, five(), spans("0"), 10, 0, spaceOf(0, "1@0 2@0 3@0 4@0", known), []int{0}, nil)
	wantAck(t, five(), spans("2..3 0"), 10, 0, spaceOf(3, "1@0 4@0", known), []int{0, 2, 3}, nil)
	wantAck(t, five(), spans("1..4"), 10, 0, spaceOf(4, "", known), []int{1, 2, 3, 4}, []int{0})
	// Without the one of that To among them nothing is known.
	wantAck(t, five(), spans("0..5"), 10, 0, spaceOf(5, "", impl.Rtt{}), all, nil)
	wantAck(t, five(), spans("0..M"), 10, 0, spaceOf(mostVarint, "", impl.Rtt{}), all, nil)
	wantAck(t, five(), spans("9 3..4"), 10, 0, spaceOf(9, "", impl.Rtt{}), []int{3, 4}, []int{0, 1, 2})
	wantAck(t, five(), spans("6 0"), 10, 0, spaceOf(6, "4@0", impl.Rtt{}), []int{0}, []int{1, 2, 3})
	// None of them.
	wantAck(t, five(), spans("5"), 10, 0, spaceOf(5, "3@0 4@0", impl.Rtt{}), nil, []int{0, 1, 2})
	wantAck(t, five(), spans("7"), 10, 0, spaceOf(7, "", impl.Rtt{}), nil, all)
	wantAck(t, five(), spans("M 5..9"), 10, 0, spaceOf(mostVarint, "", impl.Rtt{}), nil, all)
	wantAck(t, spaceOf(-1, "5@0 6@0", impl.Rtt{}), spans("4 0..2"), 10, 0, spaceOf(4, "5@0 6@0", impl.Rtt{}), nil, nil)
	wantAck(t, spaceOf(-1, "5@0 9@0", impl.Rtt{}), spans("7"), 10, 0, spaceOf(7, "5@0 9@0", impl.Rtt{}), nil, nil)
	// Nothing is on its way.
	wantAck(t, impl.Space{Largest: -1}, spans("3"), 0, 0, impl.Space{Largest: 3}, nil, nil)
	wantAck(t, impl.Space{Largest: 5, Rtt: known}, spans("3"), mostTick, mostTick, impl.Space{Largest: 5, Rtt: known}, nil, nil)
}

// What is acked and what is lost is told rising, though ranges fall.
func TestAcksAreToldRising(t *testing.T) {
	s := spaceOf(-1, "1@0 2@0 4@0 5@0 7@0 8@0 9@0 20@0", impl.Rtt{})
	wantAck(t, s, spans("8..9 4..5 1"), 10, 0, spaceOf(9, "7@0 20@0", trip(10, 10, 10, 5)), []int{1, 4, 5, 8, 9}, []int{2})
	wantAck(t, s, spans("19 7..8 3..4"), 10, 0, spaceOf(19, "20@0", impl.Rtt{}), []int{4, 7, 8}, []int{1, 2, 5, 9})
	wantAck(t, s, spans("20 8 2"), 10, 0, spaceOf(20, "", trip(10, 10, 10, 5)), []int{2, 8, 20}, []int{1, 4, 5, 7, 9})
}

func TestLostByPacketThreshold(t *testing.T) {
	for largest := range 12 {
		s := spaceOf(-1, "0@0 1@0 2@0 3@0 4@0 5@0 6@0 7@0 8@0 9@0 10@0 11@0", impl.Rtt{})
		var lost []int
		var left []impl.Sent
		for _, x := range s.Sent {
			if x.Number+3 <= largest {
				lost = append(lost, x.Number)
			} else if x.Number != largest {
				left = append(left, x)
			}
		}
		wantAck(t, s, []impl.Range{{From: largest, To: largest}}, 10, 0, impl.Space{Largest: largest, Sent: left, Rtt: trip(10, 10, 10, 5)}, []int{largest}, lost)
	}
	s := spaceOf(-1, "M-4@0 M-3@0 M-2@0 M-1@0 M@0", impl.Rtt{})
	wantAck(t, s, spans("M"), 10, 0, spaceOf(mostVarint, "M-2@0 M-1@0", trip(10, 10, 10, 5)), []int{mostVarint}, []int{mostVarint - 4, mostVarint - 3})
	wantAck(t, s, spans("M-1"), 10, 0, spaceOf(mostVarint-1, "M-3@0 M-2@0 M@0", trip(10, 10, 10, 5)), []int{mostVarint - 1}, []int{mostVarint - 4})
	// Numbers may be left out: it is they that count, not how many were sent between.
	gaps := spaceOf(-1, "1@0 6@0 7@0 8@0 9@0 12@0", impl.Rtt{})
	wantAck(t, gaps, spans("10"), 10, 0, spaceOf(10, "8@0 9@0 12@0", impl.Rtt{}), nil, []int{1, 6, 7})
}

// Nothing of numbers 8 and 9 is lost by the threshold here: the number 10 is acknowledged, which was not sent, so the round trip stays.
func TestLostByTime(t *testing.T) {
	for _, c := range []struct {
		latest, smooth, wait int
	}{
		{64, 80, 90},
		{80, 64, 90},
		{80, 80, 90},
		{0, 80, 90},
		{80, 0, 90},
		// times 9 / 8, down
		{81, 5, 91},
		{82, 5, 92},
		{87, 5, 97},
		{88, 5, 99},
		{5, 81, 91},
		{5, 87, 97},
		{7, 7, 7},
		{1, 7, 7},
		{8, 1, 9},
		{1, 8, 9},
		{2, 1, 2},
		{1, 1, 1},
		{0, 1, 1},
		{1, 0, 1},
		// at least 1
		{0, 0, 1},
		{mostTick / 2, 3, 562500000},
		{mostTick * 8 / 9, 3, 999999999},
	} {
		r := trip(c.latest, 0, c.smooth, 77)
		for _, now := range []int{c.wait, c.wait + 1, 200000000 + c.wait} {
			if now > mostTick {
				continue
			}
			at := now - c.wait
			early := impl.Space{Largest: -1, Sent: []impl.Sent{sentOf(8, max(at-1, 0)), sentOf(9, at)}, Rtt: r}
			wantAck(t, early, spans("10"), now, 0, impl.Space{Largest: 10, Rtt: r}, nil, []int{8, 9})
			between := impl.Space{Largest: -1, Sent: []impl.Sent{sentOf(8, at), sentOf(9, at+1)}, Rtt: r}
			wantAck(t, between, spans("10"), now, 0, impl.Space{Largest: 10, Sent: between.Sent[1:], Rtt: r}, nil, []int{8})
			late := impl.Space{Largest: -1, Sent: []impl.Sent{sentOf(8, at+1), sentOf(9, at+1)}, Rtt: r}
			wantAck(t, late, spans("10"), now, 0, impl.Space{Largest: 10, Sent: late.Sent, Rtt: r}, nil, nil)
		}
	}
}

// A wait that is longer than all time until now takes nobody.
func TestNoneIsLostByALongWait(t *testing.T) {
	r := trip(mostTick, 0, mostTick, mostTick)
	s := spaceOf(-1, "8@0 9@0", r)
	for _, now := range []int{0, 1, 1000, mostTick} {
		wantAck(t, s, spans("10"), now, 0, spaceOf(10, "8@0 9@0", r), nil, nil)
	}
}

func TestNoneIsLostByTimeWithoutKnown(t *testing.T) {
	for _, now := range []int{0, 1, 5, mostTick} {
		wantAck(t, spaceOf(-1, "8@0 9@0", impl.Rtt{}), spans("10"), now, 0, spaceOf(10, "8@0 9@0", impl.Rtt{}), nil, nil)
		wantAck(t, spaceOf(-1, "7@0 8@0 9@0", impl.Rtt{}), spans("10"), now, 0, spaceOf(10, "8@0 9@0", impl.Rtt{}), nil, []int{7})
	}
}

// However old it is, what is not below Largest is not lost.
func TestNoneIsLostAboveLargest(t *testing.T) {
	r := trip(1, 1, 1, 0)
	wantAck(t, spaceOf(-1, "9@0 11@0 12@0", r), spans("10"), mostTick, 0, spaceOf(10, "11@0 12@0", r), nil, []int{9})
	wantAck(t, spaceOf(-1, "8@0 9@0", r), spans("7"), mostTick, 0, spaceOf(7, "8@0 9@0", r), nil, nil)
	wantAck(t, spaceOf(-1, "0@0 1@0", r), spans("0"), 10, 0, spaceOf(0, "1@0", trip(10, 1, 2, 2)), []int{0}, nil)
	// Largest itself may still be there, if it was acknowledged before it was sent.
	wantAck(t, spaceOf(10, "9@0 10@0 11@0", r), spans("5"), mostTick, 0, spaceOf(10, "10@0 11@0", r), nil, []int{9})
}

// A Largest that was above the first range's To stays, and it is the one that counts for what is lost.
func TestLargestThatWasHigher(t *testing.T) {
	known := trip(10, 10, 10, 5)
	s := spaceOf(10, "5@0 6@0 7@0 8@0 9@0 12@0", impl.Rtt{})
	wantAck(t, s, spans("5"), 10, 0, spaceOf(10, "8@0 9@0 12@0", known), []int{5}, []int{6, 7})
	wantAck(t, s, spans("8"), 10, 0, spaceOf(10, "9@0 12@0", known), []int{8}, []int{5, 6, 7})
	wantAck(t, s, spans("3"), 10, 0, spaceOf(10, "8@0 9@0 12@0", impl.Rtt{}), nil, []int{5, 6, 7})
	wantAck(t, s, spans("10"), 10, 0, spaceOf(10, "8@0 9@0 12@0", impl.Rtt{}), nil, []int{5, 6, 7})
	wantAck(t, s, spans("11"), 10, 0, spaceOf(11, "9@0 12@0", impl.Rtt{}), nil, []int{5, 6, 7, 8})
	wantAck(t, spaceOf(mostVarint, "5@0 M-3@0 M-2@0", impl.Rtt{}), spans("5"), 10, 0, spaceOf(mostVarint, "M-2@0", known), []int{5}, []int{mostVarint - 3})
	// Nothing was acknowledged yet, and what is low is not taken for lost.
	wantAck(t, spaceOf(-1, "1@0 2@0 3@0", impl.Rtt{}), spans("0"), 10, 0, spaceOf(0, "1@0 2@0 3@0", impl.Rtt{}), nil, nil)
}

func TestAcksThatTellTheRoundTrip(t *testing.T) {
	r := trip(120, 100, 110, 20)
	// It is the one with that To whose Time counts, and the delay is taken off as SampleRtt has it.
	s := spaceOf(-1, "1@10 2@30 3@50", r)
	wantAck(t, s, spans("1..3"), 200, 0, spaceOf(3, "", trip(150, 100, 115, 25)), []int{1, 2, 3}, nil)
	wantAck(t, s, spans("1..3"), 200, 50, spaceOf(3, "", trip(150, 100, 108, 17)), []int{1, 2, 3}, nil)
	wantAck(t, s, spans("1..3"), 200, 51, spaceOf(3, "", trip(150, 100, 115, 25)), []int{1, 2, 3}, nil)
	wantAck(t, s, spans("2"), 180, 0, spaceOf(2, "3@50", trip(150, 100, 115, 25)), []int{2}, []int{1})
	wantAck(t, s, spans("2"), 90, 0, spaceOf(2, "1@10 3@50", trip(60, 60, 103, 27)), []int{2}, nil)
	// Others that are acked tell nothing, also where the To is one that is not sent.
	wantAck(t, s, spans("1..4"), 200, 50, spaceOf(4, "", r), []int{1, 2, 3}, nil)
	wantAck(t, s, spans("7 1..3"), 200, 50, spaceOf(7, "", r), []int{1, 2, 3}, nil)
	// It tells also where Largest was higher.
	s.Largest = 9
	wantAck(t, s, spans("2"), 180, 0, spaceOf(9, "", trip(150, 100, 115, 25)), []int{2}, []int{1, 3})
	// Without Known the delay does not count.
	s = spaceOf(-1, "1@10 2@30", impl.Rtt{})
	wantAck(t, s, spans("2"), 41, 5, spaceOf(2, "", trip(11, 11, 11, 5)), []int{2}, []int{1})
	wantAck(t, s, spans("2"), 30, 5, spaceOf(2, "", trip(0, 0, 0, 0)), []int{2}, []int{1})
	wantAck(t, s, spans("1"), mostTick, mostTick, spaceOf(1, "2@30", trip(999999990, 999999990, 999999990, 499999995)), []int{1}, nil)
}

// The round trip that the acknowledgement itself tells is the one that is waited for.
func TestWaitOfTheNewRoundTrip(t *testing.T) {
	// It was short: 11 would be the wait, and the others would be lost.
	s := spaceOf(-1, "1@100 2@100 3@100", trip(10, 10, 10, 5))
	wantAck(t, s, spans("3"), 270, 0, spaceOf(3, "1@100 2@100", trip(170, 10, 30, 43)), []int{3}, nil)
	// It was long: 1125 would be the wait, now it is 986.
	long := trip(1000, 20, 1000, 5)
	wantAck(t, spaceOf(-1, "1@14 2@15 3@980", long), spans("3"), 1000, 0, spaceOf(3, "2@15", trip(20, 20, 877, 248)), []int{3}, []int{1})
	// Nothing was known: the wait of 20 is 22.
	wantAck(t, spaceOf(-1, "1@978 2@979 3@980", impl.Rtt{}), spans("3"), 1000, 0, spaceOf(3, "2@979", trip(20, 20, 20, 10)), []int{3}, []int{1})
}

// A packet may be lost for both reasons, and is told once.
func TestLostForBothReasons(t *testing.T) {
	r := trip(80, 80, 80, 9)
	s := spaceOf(-1, "1@0 2@110 3@111 7@150 8@160 9@170", r)
	wantAck(t, s, spans("5"), 200, 0, spaceOf(5, "3@111 7@150 8@160 9@170", r), nil, []int{1, 2})
	wantAck(t, s, spans("6"), 200, 0, spaceOf(6, "7@150 8@160 9@170", r), nil, []int{1, 2, 3})
	wantAck(t, s, spans("10"), 239, 0, spaceOf(10, "8@160 9@170", r), nil, []int{1, 2, 3, 7})
	wantAck(t, s, spans("10"), 250, 0, spaceOf(10, "9@170", r), nil, []int{1, 2, 3, 7, 8})
	wantAck(t, s, spans("10"), 260, 0, spaceOf(10, "", r), nil, []int{1, 2, 3, 7, 8, 9})
}

func TestAcksOfSixty(t *testing.T) {
	s := impl.Space{Largest: -1, Sent: manySents(60, 0, 0)}
	wantAck(t, s, spans("0..59"), 10, 0, spaceOf(59, "", trip(10, 10, 10, 5)), numbersFrom(0, 60), nil)
	wantAck(t, s, spans("59"), 10, 0, spaceOf(59, "57@0 58@0", trip(10, 10, 10, 5)), []int{59}, numbersFrom(0, 57))
	// Twenty ranges: 2, 5 .. 59 and all others.
	var acked, lost []int
	for n := range 57 {
		if n%3 == 2 {
			acked = append(acked, n)
		} else {
			lost = append(lost, n)
		}
	}
	wantAck(t, s, apart(20, 2, 1, 2), 10, 0, spaceOf(59, "57@0 58@0", trip(10, 10, 10, 5)), append(acked, 59), lost)
	wantNoAck(t, s, apart(21, 2, 1, 2), 10, 0, "one range too many")
	wantNoAck(t, impl.Space{Largest: -1, Sent: manySents(61, 0, 0)}, spans("59"), 10, 0, "one sent too many")
}

func numbersFrom(first, n int) []int {
	var l []int
	for i := range n {
		l = append(l, first+i)
	}
	return l
}

func TestAcksAtTheEndsOfTime(t *testing.T) {
	s := spaceOf(-1, "1@3 2@9", impl.Rtt{})
	for _, now := range []int{8, 3, 0, -1, minInt, mostTick + 1, maxInt} {
		wantNoAck(t, s, spans("2"), now, 0, "ahead of the last Time, or no time")
	}
	wantAck(t, s, spans("2"), 9, 0, spaceOf(2, "", trip(0, 0, 0, 0)), []int{2}, []int{1})
	wantAck(t, s, spans("2"), 10, 0, spaceOf(2, "", trip(1, 1, 1, 0)), []int{2}, []int{1})
	wantAck(t, s, spans("2"), mostTick, 0, spaceOf(2, "1@3", trip(mostTick-9, mostTick-9, mostTick-9, 499999995)), []int{2}, nil)
	// The last Time counts also where the last one is not acked.
	wantNoAck(t, s, spans("1"), 8, 0, "ahead of the last Time")
	wantAck(t, s, spans("1"), 9, 0, spaceOf(1, "2@9", trip(6, 6, 6, 3)), []int{1}, nil)
	for _, now := range noTicks() {
		wantNoAck(t, impl.Space{Largest: -1}, spans("2"), now, 0, "no time")
	}
	for _, delay := range noTicks() {
		wantNoAck(t, impl.Space{Largest: -1}, spans("2"), 9, delay, "no delay")
		wantNoAck(t, s, spans("2"), 9, delay, "no delay")
		wantNoAck(t, s, spans("7"), 9, delay, "no delay, though none is sampled")
	}
	last := spaceOf(-1, "1@1000000000", impl.Rtt{})
	wantAck(t, last, spans("1"), mostTick, mostTick, spaceOf(1, "", trip(0, 0, 0, 0)), []int{1}, nil)
	wantNoAck(t, last, spans("1"), mostTick-1, 0, "ahead of the last Time")
}

func TestAcksWithoutGoodRanges(t *testing.T) {
	for _, s := range []impl.Space{{}, {Largest: -1}, five(), spaceOf(3, "5@0 7@4", trip(60, 60, 95, 47))} {
		wantNoAck(t, s, nil, 10, 0, "no ranges")
		wantNoAck(t, s, []impl.Range{}, 10, 0, "no ranges")
		for why, l := range noRanges() {
			wantNoAck(t, s, l, 10, 0, why)
		}
	}
}
