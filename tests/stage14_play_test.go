package tests

import (
	"slices"
	"strings"
	"testing"

	"loop.example/g00206/impl"
)

func wantStream(t *testing.T, data string, limit int, cuts, order []int, text string, done bool) {
	t.Helper()
	keptCuts, keptOrder := slices.Clone(cuts), slices.Clone(order)
	if got, isDone, ok := impl.PlayStream(data, limit, cuts, order); got != text || isDone != done || !ok {
		t.Errorf("%.60q within %d, cut at %v, in the order %v: %.60q %v %v, not %.60q %v", data, limit, cuts, order, got, isDone, ok, text, done)
	}
	if !slices.Equal(cuts, keptCuts) || !slices.Equal(order, keptOrder) {
		t.Errorf("%v %v became %v %v", keptCuts, keptOrder, cuts, order)
	}
}

func wantNoStream(t *testing.T, data string, limit int, cuts, order []int, why string) {
	t.Helper()
	if got, done, ok := impl.PlayStream(data, limit, cuts, order); got != "" || done || ok {
		t.Errorf("%s: %.60q within %d, cut at %v, in the order %v: %.60q %v %v", why, data, limit, cuts, order, got, done, ok)
	}
}

func TestPlayStream(t *testing.T) {
	cuts := []int{2, 4}
	for _, c := range []struct {
		why   string
		order []int
		text  string
		done  bool
	}{
		{"none", nil, "", false},
		{"in order", []int{0, 1, 2}, "abcdef", true},
		{"backwards", []int{2, 1, 0}, "abcdef", true},
		{"the last one first", []int{2, 0, 1}, "abcdef", true},
		{"the first one last", []int{1, 2, 0}, "abcdef", true},
		{"the first alone", []int{0}, "ab", false},
		{"the second alone", []int{1}, "", false},
		{"the last alone", []int{2}, "", false},
		{"all but the first", []int{1, 2}, "", false},
		{"all but the second", []int{0, 2}, "ab", false},
		{"all but the last", []int{1, 0}, "abcd", false},
		{"each twice", []int{0, 0, 2, 2, 1, 1}, "abcdef", true},
		{"again what was read", []int{0, 1, 0, 1, 2, 0, 2}, "abcdef", true},
		{"one alone, again and again", []int{1, 1, 1, 1}, "", false},
		{"below 0", []int{-1, 0, -2, 1, -3, 2, -1}, "abcdef", true},
		{"behind the last", []int{3, 0, 4, 1, 5, 2, 3}, "abcdef", true},
		{"another number in place of the last", []int{0, 1, 3}, "abcd", false},
		{"another number in place of the first", []int{-1, 1, 2}, "", false},
		{"other numbers alone", []int{-1, 3, 100, -100}, "", false},
		{"the ends of int", []int{minInt, 0, maxInt, 1, minInt + 1, 2, maxInt - 1}, "abcdef", true},
	} {
		wantStream(t, "abcdef", 6, cuts, c.order, c.text, c.done)
		wantStream(t, "abcdef", mostBuffer, cuts, c.order, c.text, c.done)
	}
}

func TestStreamsCutAtTheirEnds(t *testing.T) {
	for _, c := range []struct {
		why   string
		data  string
		cuts  []int
		order []int
		text  string
		done  bool
	}{
		{"not cut", "abc", nil, []int{0}, "abc", true},
		{"not cut, nothing comes", "abc", nil, nil, "", false},
		{"not cut, another number", "abc", nil, []int{1}, "", false},
		{"cut at 0", "abc", []int{0}, []int{0, 1}, "abc", true},
		{"cut at 0, the first is not needed", "abc", []int{0}, []int{1}, "abc", true},
		{"cut at 0, the first alone", "abc", []int{0}, []int{0}, "", false},
		{"cut at the length", "abc", []int{3}, []int{0, 1}, "abc", true},
		{"cut at the length, the end comes first", "abc", []int{3}, []int{1, 0}, "abc", true},
		{"cut at the length, without the end", "abc", []int{3}, []int{0}, "abc", false},
		{"cut at the length, the end alone", "abc", []int{3}, []int{1}, "", false},
		{"cut at both", "abc", []int{0, 3}, []int{2, 1}, "abc", true},
		{"cut at both, and between", "abc", []int{0, 1, 3}, []int{3, 2, 1}, "abc", true},
		{"no bytes", "", nil, []int{0}, "", true},
		{"no bytes, nothing comes", "", nil, nil, "", false},
		{"no bytes, another number", "", nil, []int{1, -1}, "", false},
		{"no bytes, cut", "", []int{0}, []int{1}, "", true},
		{"no bytes, cut, without the end", "", []int{0}, []int{0}, "", false},
	} {
		wantStream(t, c.data, len(c.data), c.cuts, c.order, c.text, c.done)
		wantStream(t, c.data, 100, c.cuts, c.order, c.text, c.done)
	}
}

func TestStreamsWithinLimits(t *testing.T) {
	cuts := []int{2, 4}
	for limit, text := range []string{"", "", "ab", "ab", "abcd", "abcd"} {
		for _, order := range [][]int{{0, 1, 2}, {2, 1, 0}, {2, 0, 1}, {1, 2, 0}, {0, 0, 1, 1, 2, 2}} {
			wantStream(t, "abcdef", limit, cuts, order, text, false)
		}
	}
	// not even the end lies within
	wantStream(t, "abcdef", 5, []int{6}, []int{1}, "", false)
	wantStream(t, "abcdef", 5, []int{5, 6}, []int{0, 1, 2}, "abcde", false)
	wantStream(t, "abcdef", 0, []int{0}, []int{0, 1}, "", false)
	wantStream(t, "abcdef", 6, []int{5, 6}, []int{0, 1, 2}, "abcdef", true)
	// what is within comes, though what is ahead of it does not
	wantStream(t, "a", 0, nil, []int{0}, "", false)
	wantStream(t, "", 0, nil, []int{0}, "", true)
	all := letters(mostBuffer)
	quarters := []int{1000, 2000, 3000}
	wantStream(t, all, mostBuffer, quarters, []int{3, 1, 0, 2}, all, true)
	wantStream(t, all, mostBuffer-1, quarters, []int{3, 1, 0, 2}, all[:3000], false)
	wantStream(t, all, 2999, quarters, []int{3, 1, 0, 2}, all[:2000], false)
}

// A piece of more bytes than a payload has is refused, and changes nothing for the others.
func TestStreamsOfLongPieces(t *testing.T) {
	all := letters(mostBuffer)
	wantStream(t, all[:1500], mostBuffer, nil, []int{0}, all[:1500], true)
	wantStream(t, all[:1501], mostBuffer, nil, []int{0}, "", false)
	wantStream(t, all, mostBuffer, nil, []int{0, 0}, "", false)
	wantStream(t, all, mostBuffer, []int{1500, 3000}, []int{2, 1, 0}, all, true)
	wantStream(t, all, mostBuffer, []int{1500, 3001}, []int{0, 1, 2}, all[:1500], false)
	wantStream(t, all, mostBuffer, []int{1500, 3001}, []int{1, 2, 0}, all[:1500], false)
	wantStream(t, all, mostBuffer, []int{1501, 3000}, []int{0, 1, 2}, "", false)
	wantStream(t, all, mostBuffer, []int{100, 2499}, []int{0, 1, 2}, all[:100], false)
	wantStream(t, all, mostBuffer, []int{100, 1600}, []int{2, 1, 0}, all[:1600], false)
}

func TestStreamsOfManyCuts(t *testing.T) {
	data := letters(mostBuffer)
	var cuts, order []int
	for n := range 40 {
		cuts = append(cuts, 100*n+50)
		order = append(order, n)
	}
	order = append(order, 40)
	wantStream(t, data, mostBuffer, cuts, order, data, true)
	slices.Reverse(order)
	wantStream(t, data, mostBuffer, cuts, order, data, true)
	// every second one first: there are as many pieces apart as can be
	var mixed []int
	for n := 1; n < 41; n += 2 {
		mixed = append(mixed, n)
	}
	for n := 40; n >= 0; n -= 2 {
		mixed = append(mixed, n)
	}
	wantStream(t, data, mostBuffer, cuts, mixed, data, true)
	wantStream(t, data, mostBuffer, cuts, mixed[:len(mixed)-1], "", false)
	wantNoStream(t, data, mostBuffer, append(slices.Clone(cuts), 3999), order, "41 cuts")
	wantNoStream(t, data, mostBuffer, append([]int{0}, cuts...), nil, "41 cuts")
	wantNoStream(t, letters(41), 41, numbersFrom(0, 42), nil, "42 cuts")
	wantStream(t, letters(39), 39, numbersFrom(0, 40), numbersFrom(1, 40), letters(39), true)
}

func TestStreamsOfLongOrders(t *testing.T) {
	order := append(make([]int, 98), 2, 1)
	wantStream(t, "abcdef", 6, []int{2, 4}, order, "abcdef", true)
	wantStream(t, "abcdef", 6, []int{2, 4}, order[:99], "ab", false)
	for _, more := range []int{-1, 0, 1, 3, maxInt} {
		wantNoStream(t, "abcdef", 6, []int{2, 4}, append(slices.Clone(order), more), "101 numbers")
	}
	wantNoStream(t, "abcdef", 6, []int{2, 4}, make([]int, 900), "900 numbers")
	wantNoStream(t, "", 0, nil, make([]int, 101), "101 numbers")
}

func TestStreamsThatAreNotAsSaid(t *testing.T) {
	order := []int{0, 1, 2}
	for _, cuts := range [][]int{
		{-1}, {7}, {-1, 2}, {2, 7}, {2, 2}, {0, 0}, {6, 6}, {4, 2}, {1, 4, 3}, {1, 3, 3, 5}, {5, 0},
		{minInt}, {maxInt}, {minInt, 3}, {3, maxInt}, {maxInt, minInt}, {3, minInt}, {maxInt, maxInt},
	} {
		wantNoStream(t, "abcdef", 6, cuts, order, "cuts")
		wantNoStream(t, "abcdef", 6, cuts, nil, "cuts")
	}
	for _, limit := range []int{-1, -2, mostBuffer + 1, minInt, maxInt} {
		wantNoStream(t, "abcdef", limit, []int{2, 4}, order, "limit")
		wantNoStream(t, "", limit, nil, nil, "limit")
	}
	cuts := []int{1000, 2000, 3000}
	wantNoStream(t, letters(mostBuffer+1), mostBuffer, cuts, order, "4001 bytes")
	wantNoStream(t, letters(9000), mostBuffer, cuts, order, "9000 bytes")
	wantNoStream(t, strings.Repeat("a", mostBuffer+1), 0, nil, nil, "4001 bytes")
}
