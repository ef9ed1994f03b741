package tests

import (
	"fmt"
	"slices"
	"strconv"
	"strings"
	"testing"

	"loop.example/g00206/impl"
)

const mostVarint = 4611686018427387903

// spanEnd reads a number; `M` is the greatest varint, `M-1` one less, and so on. What is no number is a mistake of the test itself.
func spanEnd(text string) int {
	of := 0
	if rest, great := strings.CutPrefix(text, "M"); great {
		of, text = mostVarint, rest
	}
	if text == "" {
		return of
	}
	n, err := strconv.Atoi(text)
	if err != nil {
		panic(err)
	}
	return of + n
}

// spans reads ranges such as `9..12 5 1..3`, a single number being a range of its own; they need not be good.
func spans(text string) []impl.Range {
	var l []impl.Range
	for _, word := range strings.Fields(text) {
		from, to, wide := strings.Cut(word, "..")
		if !wide {
			to = from
		}
		l = append(l, impl.Range{From: spanEnd(from), To: spanEnd(to)})
	}
	return l
}

// apart are n ranges, of which the last one begins at from, each size numbers wide, with gap numbers between.
func apart(n, from, size, gap int) []impl.Range {
	var l []impl.Range
	for i := n - 1; i >= 0; i-- {
		at := from + i*(size+gap)
		l = append(l, impl.Range{From: at, To: at + size - 1})
	}
	return l
}

func wantKeptRanges(t *testing.T, what string, l, kept []impl.Range) {
	t.Helper()
	if !slices.Equal(l, kept) {
		t.Errorf("%s: %v became %v", what, kept, l)
	}
}

func wantPut(t *testing.T, l []impl.Range, n int, want []impl.Range) {
	t.Helper()
	kept := slices.Clone(l)
	if got, ok := impl.PutNumber(l, n); !slices.Equal(got, want) || !ok {
		t.Errorf("%d put to %v: %v %v, not %v", n, l, got, ok, want)
	}
	wantKeptRanges(t, "PutNumber", l, kept)
}

func wantNoPut(t *testing.T, l []impl.Range, n int, why string) {
	t.Helper()
	if got, ok := impl.PutNumber(l, n); len(got) != 0 || ok {
		t.Errorf("%s: %d put to %v: %v %v", why, n, l, got, ok)
	}
}

func wantHas(t *testing.T, l []impl.Range, n int, want bool) {
	t.Helper()
	if has, ok := impl.HasNumber(l, n); has != want || !ok {
		t.Errorf("%d in %v: %v %v, not %v", n, l, has, ok, want)
	}
}

func wantNoHas(t *testing.T, l []impl.Range, n int, why string) {
	t.Helper()
	if has, ok := impl.HasNumber(l, n); has || ok {
		t.Errorf("%s: %d in %v: %v %v", why, n, l, has, ok)
	}
}

// wantJoin holds either order: what both have together does not hang on which is first.
func wantJoin(t *testing.T, a, b, want []impl.Range) {
	t.Helper()
	for _, pair := range [][2][]impl.Range{{a, b}, {b, a}} {
		keptA, keptB := slices.Clone(pair[0]), slices.Clone(pair[1])
		if got, ok := impl.JoinRanges(pair[0], pair[1]); !slices.Equal(got, want) || !ok {
			t.Errorf("%v with %v: %v %v, not %v", pair[0], pair[1], got, ok, want)
		}
		wantKeptRanges(t, "JoinRanges", pair[0], keptA)
		wantKeptRanges(t, "JoinRanges", pair[1], keptB)
	}
}

func wantNoJoin(t *testing.T, a, b []impl.Range, why string) {
	t.Helper()
	for _, pair := range [][2][]impl.Range{{a, b}, {b, a}} {
		if got, ok := impl.JoinRanges(pair[0], pair[1]); len(got) != 0 || ok {
			t.Errorf("%s: %v with %v: %v %v", why, pair[0], pair[1], got, ok)
		}
	}
}

func TestLimitsOfLosses(t *testing.T) {
	if impl.MaxRanges != 20 || impl.MaxSent != 60 || impl.PacketThreshold != 3 || impl.MaxTick != 1000000000 {
		t.Error(impl.MaxRanges, impl.MaxSent, impl.PacketThreshold, impl.MaxTick)
	}
}

func goodRanges() [][]impl.Range {
	l := [][]impl.Range{nil, {}}
	for _, text := range []string{
		"0", "0..1", "7", "5..7", "0..M", "M", "M-1", "M-1..M", "1..M-1",
		"2 0", "3 1", "5..7 1..3", "5..7 3", "5..7 0..3", "7 5..5 0..3",
		"M M-2", "M 0..M-2", "M-5..M-3 2..M-7 0", "99 50 40..42 38 1..3",
	} {
		l = append(l, spans(text))
	}
	return append(l, apart(19, 0, 1, 1), apart(20, 0, 1, 1), apart(20, 3, 4, 2), apart(20, mostVarint-38, 1, 1), apart(20, mostVarint-97, 3, 2))
}

// noRanges are lists that are not good, by what is wrong with them.
func noRanges() map[string][]impl.Range {
	l := map[string][]impl.Range{
		"one too many":      apart(21, 0, 1, 1),
		"many too many":     apart(300, 7, 2, 3),
		"overlapping twice": slices.Repeat(spans("5"), 20),
	}
	for why, text := range map[string]string{
		"touching":                "5..7 4",
		"touching, wide":          "5..7 1..4",
		"touching at the ends":    "1..M 0",
		"overlapping by one":      "5..7 1..5",
		"overlapping":             "5..7 1..6",
		"lying in the one ahead":  "1..9 3..5",
		"the one ahead lies in":   "3..5 1..9",
		"alike":                   "5..7 5..7",
		"rising":                  "1..3 5..7",
		"rising and touching":     "1 2",
		"rising at the end":       "20 9 12",
		"touching at the end":     "20 9 8",
		"turned about":            "7..5",
		"turned about by one":     "6..5",
		"turned about at nought":  "0..-1",
		"turned about behind":     "9 5..3",
		"turned about ahead":      "12..9 5",
		"below nought":            "-1",
		"from below nought":       "-1..3",
		"from below nought, last": "9 5 -1..3",
		"too great":               "M+1",
		"to too great":            "5..M+1",
		"to too great, first":     "5..M+1 3",
		"both wrong":              "-1..M+1",
	} {
		l[why] = spans(text)
	}
	for _, n := range []int{minInt, minInt + 1, maxInt, maxInt - 1} {
		for _, m := range []int{minInt, 0, 5, maxInt} {
			for _, r := range []impl.Range{{From: n, To: m}, {From: m, To: n}} {
				l[fmt.Sprint("of great numbers ", r)] = []impl.Range{r}
				l[fmt.Sprint("of great numbers, behind a good one ", r)] = []impl.Range{{From: 7, To: 9}, r}
				l[fmt.Sprint("of great numbers, ahead of a good one ", r)] = []impl.Range{r, {From: 1, To: 2}}
			}
		}
	}
	for at := range 20 {
		for why, r := range map[string]impl.Range{"turned about": {From: 1000, To: 999}, "below nought": {From: -1, To: 4}, "too great": {From: 3, To: mostVarint + 1}} {
			one := apart(20, 500, 50, 50)
			one[at] = r
			l[fmt.Sprintf("%s at %d of 20", why, at)] = one
		}
	}
	for at := range 19 {
		one := apart(20, 500, 50, 50)
		one[at].From = one[at+1].To + 1
		l[fmt.Sprintf("touching at %d of 20", at)] = one
	}
	return l
}

func TestRangesThatAreGood(t *testing.T) {
	for _, l := range goodRanges() {
		if !impl.GoodRanges(l) {
			t.Errorf("%v is not good", l)
		}
	}
}

func TestRangesThatAreNotGood(t *testing.T) {
	numbers := []int{minInt, -1, 0, 1, 4, 6, 8, 1000, mostVarint, mostVarint + 1, maxInt}
	for why, l := range noRanges() {
		if impl.GoodRanges(l) {
			t.Errorf("%s: %v is good", why, l)
		}
		for _, n := range numbers {
			wantNoPut(t, l, n, why)
			wantNoHas(t, l, n, why)
		}
		for _, other := range [][]impl.Range{nil, spans("5"), spans("0..M"), apart(20, 0, 1, 1), l} {
			wantNoJoin(t, l, other, why)
		}
	}
}

// A number that can't be put is looked for like any other, and is in no range.
func TestNumbersThatAreNone(t *testing.T) {
	for _, l := range goodRanges() {
		for _, n := range []int{-1, -2, minInt, mostVarint + 1, mostVarint + 2, maxInt} {
			wantNoPut(t, l, n, "no number")
			wantHas(t, l, n, false)
		}
	}
}

func TestNumbersPut(t *testing.T) {
	for _, c := range []struct {
		to   string
		n    string
		want string
	}{
		{"", "0", "0"},
		{"", "7", "7"},
		{"", "M", "M"},
		// ahead of all
		{"5..7", "9", "9 5..7"},
		{"5..7", "M", "M 5..7"},
		{"5..7 1", "100", "100 5..7 1"},
		// behind all
		{"5..7", "3", "5..7 3"},
		{"5..7", "0", "5..7 0"},
		{"9 5..7", "2", "9 5..7 2"},
		// between two
		{"9..11 1..3", "6", "9..11 6 1..3"},
		{"9..11 1..3", "5", "9..11 5 1..3"},
		{"9..11 1..3", "7", "9..11 7 1..3"},
		{"30 20 10", "25", "30 25 20 10"},
		{"30 20 10", "15", "30 20 15 10"},
		// into one
		{"5..7", "5", "5..7"},
		{"5..7", "6", "5..7"},
		{"5..7", "7", "5..7"},
		{"9 5..7 1", "9", "9 5..7 1"},
		{"9 5..7 1", "1", "9 5..7 1"},
		{"0..M", "0", "0..M"},
		{"0..M", "5", "0..M"},
		{"0..M", "M", "0..M"},
		// touching one
		{"5..7", "8", "5..8"},
		{"5..7", "4", "4..7"},
		{"9..11 1..3", "12", "9..12 1..3"},
		{"9..11 1..3", "8", "8..11 1..3"},
		{"9..11 1..3", "4", "9..11 1..4"},
		{"9..11 1..3", "0", "9..11 0..3"},
		{"M-1", "M", "M-1..M"},
		{"M", "M-1", "M-1..M"},
		{"1", "0", "0..1"},
		{"0", "1", "0..1"},
		{"1..M", "0", "0..M"},
		{"0..M-1", "M", "0..M"},
		// touching two at once
		{"5..7 1..3", "4", "1..7"},
		{"2 0", "1", "0..2"},
		{"M M-2", "M-1", "M-2..M"},
		{"M 0..M-2", "M-1", "0..M"},
		{"30..31 20..22 18 9", "19", "30..31 18..22 9"},
		{"30..31 28 20..22 9", "29", "28..31 20..22 9"},
		{"30..31 20..22 9..11 5..7", "8", "30..31 20..22 5..11"},
	} {
		wantPut(t, spans(c.to), spanEnd(c.n), spans(c.want))
	}
}

// Twenty single numbers 10, 14 .. 86 leave no room for a range more.
func TestNumbersPutWhereThereIsNoRoom(t *testing.T) {
	full := apart(20, 10, 1, 3)
	less := full[:19]
	one := func(n int) []impl.Range { return []impl.Range{{From: n, To: n}} }
	for _, n := range []int{88, 89, 1000, mostVarint} {
		wantPut(t, full, n, slices.Concat(one(n), less))
	}
	// Behind all it is itself the last one.
	for _, n := range []int{0, 1, 7, 8} {
		wantPut(t, full, n, full)
	}
	wantPut(t, full, 12, slices.Concat(less, one(12)))
	wantPut(t, full, 16, slices.Concat(full[:18], one(16), one(14)))
	wantPut(t, full, 84, slices.Concat(one(86), one(84), full[1:19]))
	// What touches or lies in one needs no room.
	wantPut(t, full, 9, slices.Concat(less, spans("9..10")))
	wantPut(t, full, 11, slices.Concat(less, spans("10..11")))
	wantPut(t, full, 87, slices.Concat(spans("86..87"), full[1:]))
	wantPut(t, full, 50, full)
	for _, r := range full {
		wantPut(t, full, r.From, full)
	}
	// What touches two makes room, and what comes then is kept.
	tight := apart(20, 10, 1, 1)
	wantPut(t, tight, 11, slices.Concat(tight[:18], spans("10..12")))
	wantPut(t, slices.Concat(tight[:18], spans("10..12")), 5, slices.Concat(tight[:18], spans("10..12 5")))
	wantPut(t, tight, 47, slices.Concat(spans("46..48"), tight[2:]))
	// The last one goes as a whole, however wide it is.
	wide := slices.Concat(apart(19, 5000, 1, 1), spans("0..4000"))
	wantPut(t, wide, 9000, slices.Concat(spans("9000"), wide[:19]))
	wantPut(t, wide, 4500, slices.Concat(wide[:19], spans("4500")))
	wantPut(t, wide, 4001, slices.Concat(wide[:19], spans("0..4001")))
	nineteen := apart(19, 10, 1, 3)
	wantPut(t, nineteen, 8, slices.Concat(nineteen, spans("8")))
	wantPut(t, nineteen, 88, slices.Concat(spans("88"), nineteen))
}

func TestNumbersInRanges(t *testing.T) {
	for _, l := range goodRanges() {
		for _, r := range l {
			for _, n := range []int{r.From, r.To, r.From + (r.To-r.From)/2} {
				wantHas(t, l, n, true)
			}
			// No two touch, so that what is beside one is in none.
			for _, n := range []int{r.From - 1, r.To + 1} {
				wantHas(t, l, n, false)
			}
		}
	}
	for _, n := range []int{0, 1, 5, mostVarint} {
		wantHas(t, nil, n, false)
		wantHas(t, []impl.Range{}, n, false)
	}
	l := spans("20..22 9..11 5 0..2")
	for n, want := range []bool{true, true, true, false, false, true, false, false, false, true, true, true, false, false} {
		wantHas(t, l, n, want)
	}
	wantHas(t, l, 23, false)
	wantHas(t, l, mostVarint, false)
}

func TestRangesJoined(t *testing.T) {
	for _, c := range []struct{ a, b, want string }{
		// none
		{"", "", ""},
		{"", "5..7", "5..7"},
		{"", "9..11 5..7 0", "9..11 5..7 0"},
		// apart
		{"5..9", "1..3", "5..9 1..3"},
		{"9 5 1", "7 3", "9 7 5 3 1"},
		{"30 20", "10 5", "30 20 10 5"},
		{"30 5", "20 10", "30 20 10 5"},
		{"M", "0", "M 0"},
		// overlapping
		{"5..9", "3..6", "3..9"},
		{"5..9", "3..5", "3..9"},
		{"5..9", "9..12", "5..12"},
		{"10..20 0..3", "15..30 2..7", "10..30 0..7"},
		{"10..20", "15..30 5..12", "5..30"},
		// touching
		{"5..9", "1..4", "1..9"},
		{"5..9", "10", "5..10"},
		{"9..10 5..6 1..2", "7..8 3..4", "1..10"},
		{"4 2 0", "3 1", "0..4"},
		{"M M-2", "M-1", "M-2..M"},
		{"M", "0..M-1", "0..M"},
		{"0", "1..M", "0..M"},
		// lying in each other
		{"1..9", "3..5", "1..9"},
		{"1..9", "1..5", "1..9"},
		{"1..9", "5..9", "1..9"},
		{"1..9", "1", "1..9"},
		{"1..9", "9", "1..9"},
		{"0..M", "M 5..7 0", "0..M"},
		{"10..30", "28..40 20..22 15 8..12 2", "8..40 2"},
		{"50..60 10..30", "55 25..27 20..22 12", "50..60 10..30"},
		{"50..60 25..27 12", "55 10..30", "50..60 10..30"},
		// alike
		{"5", "5", "5"},
		{"5..7", "5..7", "5..7"},
		{"9 5..7 0..2", "9 5..7 0..2", "9 5..7 0..2"},
		{"0..M", "0..M", "0..M"},
		{"20 10..12 5", "30 10..12 2", "30 20 10..12 5 2"},
	} {
		wantJoin(t, spans(c.a), spans(c.b), spans(c.want))
	}
	wantJoin(t, []impl.Range{}, nil, nil)
	for _, l := range goodRanges() {
		wantJoin(t, l, nil, l)
		wantJoin(t, l, l, l)
		wantJoin(t, l, spans("0..M"), spans("0..M"))
	}
}

func TestManyRangesJoined(t *testing.T) {
	full := apart(20, 100, 1, 3)
	// Twenty altogether are as many as there may be, one more is too many.
	wantJoin(t, full[:10], full[10:], full)
	wantJoin(t, full[:19], full[19:], full)
	wantJoin(t, full, full[3:9], full)
	for _, text := range []string{"0", "98", "102", "150", "178", "900", "M"} {
		wantNoJoin(t, full, spans(text), "one more")
	}
	wantNoJoin(t, apart(11, 0, 1, 1), apart(10, 1000, 1, 1), "one more")
	wantNoJoin(t, apart(20, 0, 1, 3), apart(20, 2, 1, 3), "forty")
	// More than twenty in both lists are few where they touch or overlap.
	wantJoin(t, apart(20, 0, 1, 1), apart(20, 1, 1, 1), spans("0..39"))
	wantJoin(t, apart(20, 0, 1, 3), apart(20, 1, 1, 3), apart(20, 0, 2, 2))
	wantJoin(t, apart(20, 0, 5, 5), apart(20, 3, 4, 6), apart(20, 0, 7, 3))
	wantJoin(t, full, spans("90..300"), spans("90..300"))
	wantJoin(t, full, spans("101..103"), slices.Concat(full[:18], spans("100..104")))
	wantJoin(t, full, spans("900 101..103"), slices.Concat(spans("900"), full[:18], spans("100..104")))
	wantNoJoin(t, full, spans("900 101..103 7"), "two put together, two more")
}
