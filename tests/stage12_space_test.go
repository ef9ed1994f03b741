package tests

import (
	"fmt"
	"slices"
	"strings"
	"testing"

	"loop.example/g00206/impl"
)

// sentOf has a good Size that hangs on the Number, so that no two are easily taken for each other.
func sentOf(number, time int) impl.Sent {
	return impl.Sent{Number: number, Time: time, Size: max(number, 0) % 1501}
}

// sents reads numbers and times such as `0@5 1@5 M@9`.
func sents(text string) []impl.Sent {
	var l []impl.Sent
	for _, word := range strings.Fields(text) {
		number, time, _ := strings.Cut(word, "@")
		l = append(l, sentOf(spanEnd(number), spanEnd(time)))
	}
	return l
}

// manySents are n of them, numbered from first on, all sent at once.
func manySents(n, first, time int) []impl.Sent {
	var l []impl.Sent
	for i := range n {
		l = append(l, sentOf(first+i, time))
	}
	return l
}

func spaceOf(largest int, sent string, r impl.Rtt) impl.Space {
	return impl.Space{Largest: largest, Sent: sents(sent), Rtt: r}
}

// sameSpace holds the empty and the nil list for the same.
func sameSpace(a, b impl.Space) bool {
	return a.Largest == b.Largest && a.Rtt == b.Rtt && slices.Equal(a.Sent, b.Sent)
}

func keptSpace(s impl.Space) impl.Space {
	s.Sent = slices.Clone(s.Sent)
	return s
}

func wantKeptSpace(t *testing.T, what string, s, kept impl.Space) {
	t.Helper()
	if !sameSpace(s, kept) {
		t.Errorf("%s: %+v became %+v", what, kept, s)
	}
}

func wantSpace(t *testing.T, s impl.Space, why string) {
	t.Helper()
	if !impl.GoodSpace(s) {
		t.Errorf("%s: %+v is not good", why, s)
	}
}

// wantNoSpace holds all functions that take a space: none of them answers anything of one that is not good.
func wantNoSpace(t *testing.T, s impl.Space, why string) {
	t.Helper()
	if impl.GoodSpace(s) {
		t.Errorf("%s: %+v is good", why, s)
	}
	for _, n := range []int{0, 1, 10, 99999, mostVarint} {
		for _, time := range []int{0, 10, mostTick} {
			wantNoSend(t, s, sentOf(n, time), why)
			wantNoAck(t, s, []impl.Range{{From: n, To: n}}, time, 0, why)
		}
	}
}

func wantSend(t *testing.T, s impl.Space, x impl.Sent) impl.Space {
	t.Helper()
	kept, want := keptSpace(s), keptSpace(s)
	want.Sent = append(want.Sent, x)
	got, ok := impl.SendNumber(s, x)
	if !sameSpace(got, want) || !ok {
		t.Errorf("%+v put behind %+v: %+v %v, not %+v", x, s, got, ok, want)
	}
	wantKeptSpace(t, "SendNumber", s, kept)
	return got
}

func wantNoSend(t *testing.T, s impl.Space, x impl.Sent, why string) {
	t.Helper()
	if got, ok := impl.SendNumber(s, x); !sameSpace(got, impl.Space{}) || ok {
		t.Errorf("%s: %+v put behind %+v: %+v %v", why, x, s, got, ok)
	}
}

func TestSpacesThatAreGood(t *testing.T) {
	wantSpace(t, impl.Space{}, "the zero space")
	for _, n := range []int{-1, 0, 1, mostVarint - 1, mostVarint} {
		wantSpace(t, impl.Space{Largest: n}, "Largest")
		wantSpace(t, spaceOf(n, "0@0 5@5 M@9", trip(60, 60, 95, 47)), "Largest is not held against Sent")
	}
	for _, text := range []string{"", "0@0", "M@0", "0@1000000000", "M@1000000000", "0@5 1@5", "0@5 1@6", "0@0 9@0 M-1@0 M@1000000000", "0@1000000000 M@1000000000"} {
		wantSpace(t, spaceOf(-1, text, impl.Rtt{}), text)
	}
	for _, size := range []int{0, 1, 1499, 1500} {
		wantSpace(t, impl.Space{Sent: []impl.Sent{{Number: 7, Size: size}}}, "Size")
	}
	for _, n := range []int{0, 1, 59, 60} {
		wantSpace(t, impl.Space{Largest: -1, Sent: manySents(n, 0, 0)}, "many")
	}
	wantSpace(t, impl.Space{Largest: -1, Sent: manySents(60, mostVarint-59, mostTick)}, "many, at the ends")
	for _, r := range goodTrips() {
		wantSpace(t, impl.Space{Largest: -1, Rtt: r}, "a round trip")
	}
}

func TestSpacesThatAreNotGood(t *testing.T) {
	for _, n := range []int{-2, -3, mostVarint + 1, mostVarint + 2, minInt, maxInt} {
		wantNoSpace(t, impl.Space{Largest: n}, "Largest")
		wantNoSpace(t, spaceOf(n, "5@5", trip(60, 60, 95, 47)), "Largest")
	}
	for why, text := range map[string]string{
		"alike":                     "5@5 5@5",
		"alike, later":              "5@5 5@6",
		"falling by Number":         "5@5 4@5",
		"falling by Number, later":  "5@5 4@9",
		"falling at the end":        "1@1 5@5 9@9 8@9",
		"falling in Time":           "1@5 2@4",
		"falling in Time at first":  "1@5 2@4 3@9",
		"falling in Time at last":   "1@4 2@5 3@4",
		"falling to nought":         "1@1 2@0",
		"Number below nought":       "-1@0",
		"first Number below nought": "-1@0 5@5",
		"Number too great":          "M+1@0",
		"last Number too great":     "5@5 M@5 M+1@5",
		"Time below nought":         "0@-1",
		"Times below nought":        "0@-2 1@-1 2@5",
		"Time too great":            "0@1000000001",
		"last Time too great":       "0@0 1@1000000000 2@1000000001",
	} {
		wantNoSpace(t, spaceOf(-1, text, impl.Rtt{}), why)
		wantNoSpace(t, spaceOf(3, text, trip(60, 60, 95, 47)), why)
	}
	for _, n := range []int{61, 62, 600} {
		wantNoSpace(t, impl.Space{Largest: -1, Sent: manySents(n, 0, 0)}, "too many")
	}
	for _, n := range []int{-1, minInt, maxInt, 1501} {
		wantNoSpace(t, impl.Space{Largest: -1, Sent: []impl.Sent{{Size: n}}}, "Size")
		wantNoSpace(t, impl.Space{Largest: -1, Sent: []impl.Sent{{Number: 1}, {Number: 2, Size: n}, {Number: 3}}}, "Size in the middle")
	}
	for _, n := range []int{minInt, maxInt} {
		wantNoSpace(t, impl.Space{Largest: -1, Sent: []impl.Sent{{Number: n}}}, "Number")
		wantNoSpace(t, impl.Space{Largest: -1, Sent: []impl.Sent{{Number: 5}, {Number: n}}}, "Number")
		wantNoSpace(t, impl.Space{Largest: -1, Sent: []impl.Sent{{Time: n}}}, "Time")
		wantNoSpace(t, impl.Space{Largest: -1, Sent: []impl.Sent{{Time: 5}, {Number: 1, Time: n}}}, "Time")
	}
}

// One that is not good spoils all sixty, wherever it stands.
func TestSpacesWithOneThatIsNotGood(t *testing.T) {
	for at := range 60 {
		for why, x := range map[string]impl.Sent{
			"Number":          {Number: -1, Time: 5},
			"Number of M":     {Number: mostVarint + 1, Time: 5},
			"Time":            {Number: 10 * at, Time: -1},
			"Time of MaxTick": {Number: 10 * at, Time: mostTick + 1},
			"Size":            {Number: 10 * at, Time: 5, Size: -1},
			"Size of 1501":    {Number: 10 * at, Time: 5, Size: 1501},
		} {
			s := impl.Space{Largest: -1}
			for i := range 60 {
				s.Sent = append(s.Sent, sentOf(10*i, 5))
			}
			wantSpace(t, s, "all good")
			s.Sent[at] = x
			if impl.GoodSpace(s) {
				t.Errorf("%s at %d: %+v is good", why, at, s)
			}
			wantNoSend(t, s, sentOf(5000, mostTick), fmt.Sprint(why, " at ", at))
			wantNoAck(t, s, spans("0"), mostTick, 0, fmt.Sprint(why, " at ", at))
		}
	}
}

func TestSendsBehindNone(t *testing.T) {
	none := impl.Space{Largest: -1}
	for _, n := range []int{0, 1, 7, mostVarint} {
		for _, time := range []int{0, 1, mostTick} {
			for _, size := range []int{0, 1, 1500} {
				wantSend(t, none, impl.Sent{Number: n, Time: time, Size: size})
			}
		}
	}
	wantSend(t, impl.Space{}, sentOf(1, 0))
	wantNoSend(t, impl.Space{}, sentOf(0, 0), "not above Largest")
}

func TestSendsBehindOthers(t *testing.T) {
	s := spaceOf(-1, "3@5 8@9", trip(60, 60, 95, 47))
	for _, n := range []int{9, 10, 500, mostVarint} {
		for _, time := range []int{9, 10, mostTick} {
			wantSend(t, s, sentOf(n, time))
		}
		for _, time := range []int{8, 5, 4, 0, -1} {
			wantNoSend(t, s, sentOf(n, time), "sent ahead of the last one")
		}
	}
	for _, n := range []int{8, 7, 4, 3, 2, 0, -1} {
		wantNoSend(t, s, impl.Sent{Number: n, Time: 9}, "not above all")
		wantNoSend(t, s, impl.Sent{Number: n, Time: mostTick}, "not above all")
	}
	wantNoSend(t, spaceOf(-1, "M@0", impl.Rtt{}), sentOf(mostVarint, 0), "nothing is above M")
}

// A number is above Largest too, whether Sent are there, below it or above it.
func TestSendsAboveLargest(t *testing.T) {
	for _, text := range []string{"", "3@5", "3@5 8@9", "20@5"} {
		s := spaceOf(12, text, impl.Rtt{})
		for _, n := range []int{0, 9, 11, 12} {
			wantNoSend(t, s, sentOf(n, 100), "not above Largest")
		}
		if text == "20@5" {
			wantNoSend(t, s, sentOf(13, 100), "not above all")
			wantSend(t, s, sentOf(21, 100))
			continue
		}
		wantSend(t, s, sentOf(13, 100))
		wantSend(t, s, sentOf(mostVarint, 100))
	}
	wantSend(t, impl.Space{Largest: mostVarint - 1}, sentOf(mostVarint, 0))
	wantNoSend(t, impl.Space{Largest: mostVarint}, sentOf(mostVarint, 0), "nothing is above M")
	wantNoSend(t, impl.Space{Largest: mostVarint}, impl.Sent{Number: mostVarint + 1}, "too great")
}

func TestSendsWhereThereIsRoom(t *testing.T) {
	s := impl.Space{Largest: -1, Rtt: trip(60, 60, 95, 47)}
	for n := range 60 {
		s = wantSend(t, s, sentOf(3*n, n/2))
	}
	wantNoSend(t, s, sentOf(1000, 100), "no room")
	wantSpace(t, s, "sixty")
	s.Sent = s.Sent[1:]
	s = wantSend(t, s, sentOf(1000, 100))
	wantNoSend(t, s, sentOf(1001, 100), "no room")
}

func TestSendsThatAreNone(t *testing.T) {
	for _, s := range []impl.Space{{Largest: -1}, spaceOf(-1, "3@5 8@9", impl.Rtt{}), {Largest: 8, Sent: manySents(59, 0, 0)}} {
		for _, n := range []int{-1, -2, minInt, mostVarint + 1, maxInt} {
			wantNoSend(t, s, impl.Sent{Number: n, Time: 9}, "Number")
		}
		for _, n := range noTicks() {
			wantNoSend(t, s, impl.Sent{Number: 100, Time: n}, "Time")
		}
		for _, n := range []int{-1, -2, 1501, 1502, minInt, maxInt} {
			wantNoSend(t, s, impl.Sent{Number: 100, Time: 9, Size: n}, "Size")
		}
		wantSend(t, s, impl.Sent{Number: 100, Time: 9, Size: 1500})
	}
}
