package tests

import (
	"maps"
	"slices"
	"testing"

	"loop.example/g00206/impl"
)

// numberSet is ranges told another way: all their numbers, in no order.
type numberSet map[int]bool

func setOf(lists ...[]impl.Range) numberSet {
	set := numberSet{}
	for _, l := range lists {
		for _, r := range l {
			for n := r.From; n <= r.To; n++ {
				set[n] = true
			}
		}
	}
	return set
}

// told are the numbers as ranges, the highest first.
func (set numberSet) told() []impl.Range {
	var l []impl.Range
	for _, n := range slices.Backward(slices.Sorted(maps.Keys(set))) {
		if len(l) > 0 && set[n+1] {
			l[len(l)-1].From = n
		} else {
			l = append(l, impl.Range{From: n, To: n})
		}
	}
	return l
}

func rangesTold(l []impl.Range) bool {
	above := mostVarint + 2
	for _, r := range l {
		if r.From < 0 || r.To < r.From || r.To > mostVarint || r.To+1 >= above {
			return false
		}
		above = r.From
	}
	return len(l) <= 20
}

// placed are good ranges of few numbers each, somewhere from base on.
func (s *steps) placed(n, base int) []impl.Range {
	l := make([]impl.Range, n)
	for i := range l {
		from := base + s.below(3)
		to := from + s.below(4)
		l[n-1-i] = impl.Range{From: from, To: to}
		base = to + 2
	}
	return l
}

// someBase is where numbers are looked at: at the beginning, at the end, or between.
func (s *steps) someBase() int {
	return []int{0, 1, 1000, mostVarint - 170}[s.below(4)]
}

// someRanges are mostly good.
func (s *steps) someRanges(base int) []impl.Range {
	l := s.placed(s.below(21), base)
	if len(l) == 0 || s.below(3) > 0 {
		return l
	}
	at := s.below(len(l))
	r := &l[at]
	switch s.below(8) {
	case 0:
		r.From, r.To = r.To, r.From
	case 1:
		r.To += s.below(3)
	case 2:
		r.From -= s.below(3)
	case 3:
		slices.Reverse(l)
	case 4:
		l = slices.Insert(l, at, *r)
	case 5:
		r.From = []int{-1, minInt, maxInt, mostVarint + 1}[s.below(4)]
	case 6:
		r.To = []int{-1, minInt, maxInt, mostVarint + 1}[s.below(4)]
	case 7:
		l = s.placed(21+s.below(5), base)
	}
	return l
}

func (s *steps) someNumber(base int) int {
	if s.below(20) == 0 {
		return []int{-1, 0, mostVarint, mostVarint + 1, minInt, maxInt}[s.below(6)]
	}
	return base + s.below(140) - 3
}

func TestRangesAtAnyArguments(t *testing.T) {
	var s steps
	good, outside, cut := 0, 0, 0
	for range 20000 {
		base := s.someBase()
		l, n := s.someRanges(base), s.someNumber(base)
		told := rangesTold(l)
		if impl.GoodRanges(l) != told {
			t.Fatalf("%v: not %v", l, told)
		}
		if !told {
			wantNoPut(t, l, n, "any arguments")
			wantNoHas(t, l, n, "any arguments")
			continue
		}
		set := setOf(l)
		wantHas(t, l, n, set[n])
		if n < 0 || n > mostVarint {
			outside++
			wantNoPut(t, l, n, "any arguments")
			continue
		}
		good++
		set[n] = true
		want := set.told()
		if len(want) > 20 {
			cut++
			want = want[:20]
		}
		wantPut(t, l, n, want)
		if t.Failed() {
			t.FailNow()
		}
	}
	if good < 10000 || good > 18000 || outside < 100 || cut < 100 {
		t.Error(good, outside, cut)
	}
}

func TestJoinsAtAnyArguments(t *testing.T) {
	var s steps
	good, many := 0, 0
	for range 12000 {
		base := s.someBase()
		a, b := s.someRanges(base), s.someRanges(base)
		want := setOf()
		if rangesTold(a) && rangesTold(b) {
			good++
			want = setOf(a, b)
		}
		l := want.told()
		if !rangesTold(a) || !rangesTold(b) || len(l) > 20 {
			many++
			wantNoJoin(t, a, b, "any arguments")
			continue
		}
		wantJoin(t, a, b, l)
		if t.Failed() {
			t.FailNow()
		}
	}
	if good < 4000 || good > 11000 || many < 1000 {
		t.Error(good, many)
	}
}

// Joins that are too many come rarely by chance: two lists that lie apart have as many as both.
func TestJoinsOfListsThatLieApart(t *testing.T) {
	var s steps
	for range 2000 {
		a, b := s.placed(s.below(21), 0), s.placed(s.below(21), 1000)
		if len(a)+len(b) > 20 {
			wantNoJoin(t, a, b, "too many")
			continue
		}
		wantJoin(t, a, b, slices.Concat(b, a))
	}
}

// Promise 12: ranges are just the numbers that were put, where there is room, whatever order they come in.
func TestRangesAreTheNumbersThatWerePut(t *testing.T) {
	var s steps
	full := 0
	for range 400 {
		base, wide := s.someBase(), 1+s.below(160)
		set := numberSet{}
		var l []impl.Range
		for range s.below(90) {
			n := base + s.below(wide)
			set[n] = true
			if len(set.told()) > 20 {
				full++
				break
			}
			wantPut(t, l, n, set.told())
			l, _ = impl.PutNumber(l, n)
		}
		for n := max(base-2, 0); n <= min(base+wide+2, mostVarint); n++ {
			wantHas(t, l, n, setOf(l)[n])
		}
		if t.Failed() {
			t.FailNow()
		}
	}
	if full < 20 || full > 380 {
		t.Error(full)
	}
}

// What is put one by one is what is joined at once, where there is room.
func TestRangesPutAreRangesJoined(t *testing.T) {
	var s steps
	for range 500 {
		base := s.someBase()
		a, b := s.placed(s.below(9), base), s.placed(s.below(9), base)
		joined, ok := impl.JoinRanges(a, b)
		if !ok {
			t.Fatal(a, b)
		}
		l := a
		for _, r := range b {
			for n := r.From; n <= r.To; n++ {
				l, _ = impl.PutNumber(l, n)
			}
		}
		wantKeptRanges(t, "put one by one", l, joined)
		wantJoin(t, joined, a, joined)
		wantJoin(t, joined, b, joined)
	}
}

func tripTold(r impl.Rtt) bool {
	if !r.Known {
		return r.Latest == 0 && r.Min == 0 && r.Smooth == 0 && r.Var == 0
	}
	for _, n := range []int{r.Latest, r.Min, r.Smooth, r.Var} {
		if n < 0 || n > mostTick {
			return false
		}
	}
	return r.Min <= r.Latest
}

// someTick is mostly a time.
func (s *steps) someTick() int {
	switch s.below(24) {
	case 0:
		return noTicks()[s.below(6)]
	case 1:
		return mostTick - s.below(3)
	case 2:
		return s.below(3)
	case 3, 4, 5, 6:
		return s.below(mostTick + 1)
	}
	return s.below(400)
}

// someTrip is mostly good.
func (s *steps) someTrip() impl.Rtt {
	if s.below(5) == 0 {
		return impl.Rtt{}
	}
	r := trip(s.someTick(), s.someTick(), s.someTick(), s.someTick())
	if r.Min > r.Latest && s.below(8) > 0 {
		r.Min, r.Latest = r.Latest, r.Min
	}
	r.Known = s.below(20) > 0
	return r
}

// seenOf is what a sample counts as: the latest, without the delay, but not below the least that was seen.
func seenOf(r impl.Rtt, latest, delay int) int {
	if delay > latest || latest-delay < r.Min || latest-delay < 0 {
		return latest
	}
	return latest - delay
}

func sampleTold(r impl.Rtt, latest, delay int) impl.Rtt {
	if !r.Known {
		return trip(latest, latest, latest, latest>>1)
	}
	seen := seenOf(r, latest, delay)
	away := r.Smooth - seen
	if away < 0 {
		away = -away
	}
	least := r.Min
	if latest < least {
		least = latest
	}
	return trip(latest, least, r.Smooth-(r.Smooth-seen+7)>>3, (r.Var<<1+r.Var+away)>>2)
}

func TestTripsAtAnyArguments(t *testing.T) {
	var s steps
	good, taken := 0, 0
	for range 30000 {
		r, latest, delay := s.someTrip(), s.someTick(), s.someTick()
		tries := s.below(15) - 2
		if !tripTold(r) || delay < 0 || delay > mostTick {
			wantNoSample(t, r, latest, delay, "any arguments")
			wantNoProbe(t, r, delay, tries, "any arguments")
			continue
		}
		if tries < 0 || tries > 10 {
			wantNoProbe(t, r, delay, tries, "any arguments")
		} else {
			want := 1000
			if r.Known {
				want = r.Smooth + r.Var + r.Var + r.Var + r.Var + delay
				if r.Var == 0 {
					want++
				}
			}
			for range tries {
				want += want
			}
			wantProbe(t, r, delay, tries, want)
		}
		if latest < 0 || latest > mostTick {
			wantNoSample(t, r, latest, delay, "any arguments")
			continue
		}
		good++
		want := sampleTold(r, latest, delay)
		if !tripTold(want) {
			t.Fatalf("%+v is told of %+v", want, r)
		}
		wantSample(t, r, latest, delay, want)
		// Promise 12: a smoothed time lies between what it was and what was seen.
		if r.Known {
			seen := seenOf(r, latest, delay)
			if seen != latest {
				taken++
			}
			got, _ := impl.SampleRtt(r, latest, delay)
			if got.Smooth < min(r.Smooth, seen) || got.Smooth > max(r.Smooth, seen) {
				t.Errorf("%+v with %d, delay %d: %d lies not between", r, latest, delay, got.Smooth)
			}
		}
		if t.Failed() {
			t.FailNow()
		}
	}
	if good < 10000 || good > 29000 || taken < 1000 {
		t.Error(good, taken)
	}
}

func sentTold(x impl.Sent) bool {
	return x.Number >= 0 && x.Number <= mostVarint && x.Time >= 0 && x.Time <= mostTick && x.Size >= 0 && x.Size <= 1500
}

func spaceTold(s impl.Space) bool {
	number, time := -1, 0
	for _, x := range s.Sent {
		if !sentTold(x) || x.Number <= number || x.Time < time {
			return false
		}
		number, time = x.Number, x.Time
	}
	return s.Largest >= -1 && s.Largest <= mostVarint && len(s.Sent) <= 60 && tripTold(s.Rtt)
}

// space is good, of numbers from base on.
func (s *steps) space(base int) impl.Space {
	var a impl.Space
	number, time := base+s.below(4), s.below(300)
	for range s.below(30) {
		a.Sent = append(a.Sent, impl.Sent{Number: number, Time: time, Size: s.below(1501)})
		number += 1 + s.below(3)*s.below(3)
		time += s.below(3) * s.below(9)
	}
	a.Largest = base - 1 + s.below(60)*s.below(2)
	for a.Rtt = s.someTrip(); !tripTold(a.Rtt); {
		a.Rtt = s.someTrip()
	}
	return a
}

// someSpace is mostly good.
func (s *steps) someSpace(base int) impl.Space {
	a := s.space(base)
	switch s.below(12) {
	case 0:
		a.Largest = []int{-2, -1, 0, mostVarint, mostVarint + 1, minInt, maxInt}[s.below(7)]
	case 1:
		a.Rtt = s.someTrip()
	case 2:
		slices.Reverse(a.Sent)
	case 3:
		a.Sent = manySents(59+s.below(4), base, 7)
	case 4, 5:
		if len(a.Sent) > 0 {
			x := &a.Sent[s.below(len(a.Sent))]
			switch s.below(5) {
			case 0:
				x.Number += s.below(5) - 2
			case 1:
				x.Time += s.below(5) - 2
			case 2:
				x.Size = []int{-1, 0, 1500, 1501, minInt, maxInt}[s.below(6)]
			case 3:
				x.Number = s.someNumber(base)
			case 4:
				x.Time = s.someTick()
			}
		}
	}
	return a
}

func lastOf(a impl.Space) impl.Sent {
	if len(a.Sent) == 0 {
		return impl.Sent{Number: -1}
	}
	return a.Sent[len(a.Sent)-1]
}

func TestSendsAtAnyArguments(t *testing.T) {
	var s steps
	sent := 0
	for range 20000 {
		base := s.someBase()
		a := s.someSpace(base)
		if told := spaceTold(a); impl.GoodSpace(a) != told {
			t.Fatalf("%+v: not %v", a, told)
		}
		x := impl.Sent{Number: s.someNumber(base), Time: s.someTick(), Size: s.below(1502)}
		if s.below(2) == 0 {
			x.Number = max(lastOf(a).Number, a.Largest) + s.below(4) - 1
			x.Time = lastOf(a).Time + s.below(4) - 1
		}
		if s.below(30) == 0 {
			x.Size = []int{-1, minInt, maxInt}[s.below(3)]
		}
		with := keptSpace(a)
		with.Sent = append(with.Sent, x)
		if !spaceTold(with) || x.Number <= a.Largest {
			wantNoSend(t, a, x, "any arguments")
			continue
		}
		sent++
		wantSend(t, a, x)
		if t.Failed() {
			t.FailNow()
		}
	}
	if sent < 2000 || sent > 18000 {
		t.Error(sent)
	}
}

// ackTold is the answer told another way: what becomes of each packet, one by one.
func ackTold(a impl.Space, l []impl.Range, now, delay int) (want impl.Space, acked, lost []int) {
	want = impl.Space{Largest: a.Largest, Rtt: a.Rtt}
	if l[0].To > a.Largest {
		want.Largest = l[0].To
	}
	for _, x := range a.Sent {
		if x.Number == l[0].To {
			want.Rtt = sampleTold(a.Rtt, now-x.Time, delay)
		}
	}
	longest := want.Rtt.Latest
	if want.Rtt.Smooth > longest {
		longest = want.Rtt.Smooth
	}
	held := setOf(l)
	for _, x := range a.Sent {
		age := now - x.Time
		behind := want.Largest - x.Number
		switch {
		case held[x.Number]:
			acked = append(acked, x.Number)
		// 9 eighths of the longest, down, are at most age.
		case behind >= 3, behind >= 1 && want.Rtt.Known && age >= 1 && 8*(age+1) > 9*longest:
			lost = append(lost, x.Number)
		default:
			want.Sent = append(want.Sent, x)
		}
	}
	return want, acked, lost
}

func TestAcksAtAnyArguments(t *testing.T) {
	var s steps
	var counts [5]int
	for range 30000 {
		base := s.someBase()
		a, l := s.someSpace(base), s.someRanges(base)
		if n := len(a.Sent); n > 0 && s.below(3) == 0 {
			l = setOf(s.placed(s.below(5), base), []impl.Range{{From: a.Sent[n/2].Number, To: a.Sent[n/2].Number}}).told()
		}
		now, delay := lastOf(a).Time+s.below(200)-9, s.someTick()
		if s.below(9) == 0 {
			now = s.someTick()
		}
		if !spaceTold(a) || !rangesTold(l) || len(l) == 0 || now < lastOf(a).Time || now > mostTick || delay < 0 || delay > mostTick {
			counts[0]++
			wantNoAck(t, a, l, now, delay, "any arguments")
			continue
		}
		want, acked, lost := ackTold(a, l, now, delay)
		wantAck(t, a, l, now, delay, want, acked, lost)
		counts[1] += len(acked)
		counts[2] += len(lost)
		counts[3] += len(want.Sent)
		if want.Rtt != a.Rtt {
			counts[4]++
		}
		if t.Failed() {
			t.FailNow()
		}
	}
	for i, n := range counts {
		if n < 1000 {
			t.Error(i, n, counts)
		}
	}
}

// Promise 12: each packet is acknowledged, lost or on its way, and it is just one of these.
func TestEachPacketIsOneOfThree(t *testing.T) {
	var s steps
	var all, came, gone int
	for range 150 {
		a := impl.Space{Largest: -1}
		onTheirWay, ended := map[int]impl.Sent{}, map[int]bool{}
		var received []impl.Range
		next, now := s.below(3), s.below(50)
		for range 200 {
			now += s.below(4)
			if s.below(3) > 0 && len(a.Sent) < 60 {
				x := impl.Sent{Number: next, Time: now, Size: s.below(1501)}
				a = wantSend(t, a, x)
				onTheirWay[next] = x
				if s.below(4) > 0 {
					received, _ = impl.PutNumber(received, next)
				}
				next += 1 + s.below(8)/7
				all++
				continue
			}
			if len(received) == 0 {
				continue
			}
			b, acked, lost, ok := impl.TakeAck(a, received, now, s.below(5))
			if !ok || !impl.GoodSpace(b) {
				t.Fatalf("%+v: %+v %v", a, b, ok)
			}
			came, gone = came+len(acked), gone+len(lost)
			for _, n := range slices.Concat(acked, lost) {
				if _, there := onTheirWay[n]; !there || ended[n] {
					t.Fatalf("%d was not on its way", n)
				}
				delete(onTheirWay, n)
				ended[n] = true
			}
			for _, n := range acked {
				wantHas(t, received, n, true)
			}
			for _, n := range lost {
				wantHas(t, received, n, false)
			}
			for _, x := range b.Sent {
				if onTheirWay[x.Number] != x {
					t.Fatalf("%+v was not sent so", x)
				}
				wantHas(t, received, x.Number, false)
			}
			if len(b.Sent) != len(onTheirWay) {
				t.Fatalf("%d of %d are on their way", len(b.Sent), len(onTheirWay))
			}
			// What was acknowledged once changes no packet when it comes again at once.
			again, acked, lost, ok := impl.TakeAck(b, received, now, 0)
			if !ok || len(acked) != 0 || len(lost) != 0 || !sameSpace(again, b) {
				t.Fatalf("%+v: %+v %v %v", b, again, acked, lost)
			}
			a = b
		}
	}
	if all < 5000 || came < 2000 || gone < 300 {
		t.Error(all, came, gone)
	}
}
