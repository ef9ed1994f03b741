package tests

import (
	"fmt"
	"slices"
	"strings"
	"testing"

	"loop.example/g00206/impl"
)

// wantTexts holds a list against what it was ahead of a call.
func wantTexts(t *testing.T, what string, l, kept []string) {
	t.Helper()
	if !slices.Equal(l, kept) {
		t.Errorf("%s made %q of %q", what, l, kept)
	}
}

func wantPick(t *testing.T, l []string, key, want string) {
	t.Helper()
	kept := slices.Clone(l)
	if got, ok := impl.PickBackend(l, key); got != want || !ok {
		t.Errorf("PickBackend of %q and %q: %q %v, not %q", l, key, got, ok, want)
	}
	wantTexts(t, "PickBackend", l, kept)
}

func wantNoPick(t *testing.T, l []string, key, why string) {
	t.Helper()
	kept := slices.Clone(l)
	if got, ok := impl.PickBackend(l, key); got != "" || ok {
		t.Errorf("%s: PickBackend of %q and %q: %q %v", why, l, key, got, ok)
	}
	wantTexts(t, "PickBackend", l, kept)
}

func wantRank(t *testing.T, l []string, key string, want ...string) {
	t.Helper()
	kept := slices.Clone(l)
	if got, ok := impl.RankBackends(l, key); !slices.Equal(got, want) || !ok {
		t.Errorf("RankBackends of %q and %q: %q %v, not %q", l, key, got, ok, want)
	}
	wantTexts(t, "RankBackends", l, kept)
}

func wantNoRank(t *testing.T, l []string, key, why string) {
	t.Helper()
	kept := slices.Clone(l)
	if got, ok := impl.RankBackends(l, key); len(got) != 0 || ok {
		t.Errorf("%s: RankBackends of %q and %q: %q %v", why, l, key, got, ok)
	}
	wantTexts(t, "RankBackends", l, kept)
}

func wantDrop(t *testing.T, l []string, backend string, want ...string) {
	t.Helper()
	kept := slices.Clone(l)
	if got, ok := impl.DropBackend(l, backend); !slices.Equal(got, want) || !ok {
		t.Errorf("DropBackend of %q and %q: %q %v, not %q", l, backend, got, ok, want)
	}
	wantTexts(t, "DropBackend", l, kept)
}

func wantNoDrop(t *testing.T, l []string, backend, why string) {
	t.Helper()
	kept := slices.Clone(l)
	if got, ok := impl.DropBackend(l, backend); len(got) != 0 || ok {
		t.Errorf("%s: DropBackend of %q and %q: %q %v", why, l, backend, got, ok)
	}
	wantTexts(t, "DropBackend", l, kept)
}

func wantAdd(t *testing.T, l []string, backend string, want ...string) {
	t.Helper()
	kept := slices.Clone(l)
	if got, ok := impl.AddBackend(l, backend); !slices.Equal(got, want) || !ok {
		t.Errorf("AddBackend of %q and %q: %q %v, not %q", l, backend, got, ok, want)
	}
	wantTexts(t, "AddBackend", l, kept)
}

func wantNoAdd(t *testing.T, l []string, backend, why string) {
	t.Helper()
	kept := slices.Clone(l)
	if got, ok := impl.AddBackend(l, backend); len(got) != 0 || ok {
		t.Errorf("%s: AddBackend of %q and %q: %q %v", why, l, backend, got, ok)
	}
	wantTexts(t, "AddBackend", l, kept)
}

func wantMoved(t *testing.T, a, b, keys []string, want ...string) {
	t.Helper()
	keptA, keptB, keptKeys := slices.Clone(a), slices.Clone(b), slices.Clone(keys)
	if got, ok := impl.MovedKeys(a, b, keys); !slices.Equal(got, want) || !ok {
		t.Errorf("MovedKeys of %q, %q and %q: %q %v, not %q", a, b, keys, got, ok, want)
	}
	wantTexts(t, "MovedKeys", a, keptA)
	wantTexts(t, "MovedKeys", b, keptB)
	wantTexts(t, "MovedKeys", keys, keptKeys)
}

func wantNoMoved(t *testing.T, a, b, keys []string, why string) {
	t.Helper()
	keptA, keptB, keptKeys := slices.Clone(a), slices.Clone(b), slices.Clone(keys)
	if got, ok := impl.MovedKeys(a, b, keys); len(got) != 0 || ok {
		t.Errorf("%s: MovedKeys of %q, %q and %q: %q %v", why, a, b, keys, got, ok)
	}
	wantTexts(t, "MovedKeys", a, keptA)
	wantTexts(t, "MovedKeys", b, keptB)
	wantTexts(t, "MovedKeys", keys, keptKeys)
}

// manyKeys are n keys k1, k2 and so on.
func manyKeys(n int) []string {
	var l []string
	for i := range n {
		l = append(l, fmt.Sprint("k", i+1))
	}
	return l
}

// The orders were told by Python's hashlib and its sort.
func TestRanksKnown(t *testing.T) {
	wantRank(t, []string{"b1", "b2"}, "key", "b1", "b2")
	wantRank(t, []string{"b1", "b2"}, "", "b2", "b1")
	wantRank(t, []string{"b1", "b2", "b3"}, "", "b3", "b2", "b1")
	wantRank(t, []string{"b1", "b2", "b3"}, strings.Repeat("0123456789", 10), "b2", "b3", "b1")
	all := sortedLive()
	for key, order := range map[string]string{
		"key":                            "beta b1 gamma b2 b10 zz delta e b0 eta7 alpha z",
		"":                               "zz z b0 e b2 delta b10 alpha gamma eta7 b1 beta",
		"d\x00\x01":                      "b2 b1 b0 b10 e gamma alpha beta zz eta7 delta z",
		"203.0.113.9":                    "beta b10 z b1 zz b0 eta7 gamma e b2 delta alpha",
		strings.Repeat("0123456789", 10): "beta b10 b2 z zz e gamma alpha b0 b1 delta eta7",
	} {
		want := strings.Fields(order)
		wantRank(t, all, key, want...)
		wantPick(t, all, key, want[0])
	}
}

func TestPicksOfOne(t *testing.T) {
	for _, name := range sortedLive() {
		for _, key := range []string{"", "k", "\x00", letters(100)} {
			wantPick(t, []string{name}, key, name)
			wantRank(t, []string{name}, key, name)
		}
	}
}

func TestPicksKnown(t *testing.T) {
	three, four := []string{"b1", "b2", "b3"}, []string{"b1", "b2", "b3", "b4"}
	wantThree := strings.Fields("b2 b1 b1 b1 b3 b2 b2 b3 b3 b1 b2 b1")
	wantSecond := strings.Fields("b3 b3 b3 b2 b1 b1 b3 b2 b2 b3 b3 b2")
	wantFour := strings.Fields("b2 b1 b4 b1 b3 b2 b4 b3 b3 b1 b2 b1")
	for i, key := range manyKeys(12) {
		wantPick(t, three, key, wantThree[i])
		wantPick(t, four, key, wantFour[i])
		left := slices.DeleteFunc(slices.Clone(three), func(s string) bool { return s == wantThree[i] })
		wantPick(t, left, key, wantSecond[i])
	}
}

// tiedPairs have one score each under tiedKey, found by a search through some hundred million backends; the lesser text stands first.
func tiedPairs() [][2]string {
	return [][2]string{{"b7i3tbn", "b9bnplc"}, {"b4c0mbn", "b8njwyx"}, {"b7e62ij", "b9jggsw"}}
}

const tiedKey = "tie"

func tiedLive() []string {
	var l []string
	for _, pair := range tiedPairs() {
		l = append(l, pair[:]...)
	}
	return slices.Sorted(slices.Values(l))
}

func TestOfOneScoreTheFirst(t *testing.T) {
	for i, want := range []int{49946668588336476, 29266169066877812, 16595482447419055} {
		pair := tiedPairs()[i]
		wantScore(t, pair[0], tiedKey, want)
		wantScore(t, pair[1], tiedKey, want)
		wantPick(t, pair[:], tiedKey, pair[0])
		wantRank(t, pair[:], tiedKey, pair[0], pair[1])
	}
	for _, c := range []struct{ key, first, second string }{
		{"key", "b3i9hbl", "be3mrk"}, {"key", "b5mzahz", "b7v28ln"},
		{"", "b6iyrif", "bikchg"}, {"", "b2sawei", "baipbgk"}, {"", "b5dlvx9", "b8gy82w"},
	} {
		wantScore(t, c.second, c.key, scoreElsewhere(c.first, c.key))
		wantPick(t, []string{c.first, c.second}, c.key, c.first)
		wantRank(t, []string{c.first, c.second}, c.key, c.first, c.second)
	}
}

func TestTiesAmongOthers(t *testing.T) {
	all := tiedLive()
	order := []string{"b7i3tbn", "b9bnplc", "b4c0mbn", "b8njwyx", "b7e62ij", "b9jggsw"}
	wantRank(t, all, tiedKey, order...)
	wantPick(t, all, tiedKey, order[0])
	// Whatever part of the set is left, its order is what is left of the whole one's.
	for mask := 1; mask < 1<<len(all); mask++ {
		var live, want []string
		for i, name := range all {
			if mask>>i&1 == 1 {
				live = append(live, name)
			}
		}
		for _, name := range order {
			if slices.Contains(live, name) {
				want = append(want, name)
			}
		}
		wantRank(t, live, tiedKey, want...)
		wantPick(t, live, tiedKey, want[0])
	}
}

func TestTiesMove(t *testing.T) {
	pair, keys := tiedPairs()[0], []string{tiedKey}
	first, second := pair[:1], pair[1:]
	wantMoved(t, first, pair[:], keys)
	wantMoved(t, pair[:], first, keys)
	wantMoved(t, second, pair[:], keys, tiedKey)
	wantMoved(t, pair[:], second, keys, tiedKey)
	// One score is not one pick.
	wantMoved(t, first, second, keys, tiedKey)
	wantMoved(t, second, first, keys, tiedKey)
}

func TestDropKnown(t *testing.T) {
	wantDrop(t, []string{"b1"}, "b1")
	wantDrop(t, []string{"b1", "b2"}, "b1", "b2")
	wantDrop(t, []string{"b1", "b2"}, "b2", "b1")
	wantDrop(t, []string{"b1", "b10", "b2"}, "b10", "b1", "b2")
	all := sortedLive()
	for i, name := range all {
		wantDrop(t, all, name, slices.Concat(all[:i], all[i+1:])...)
	}
}

func TestAddKnown(t *testing.T) {
	wantAdd(t, nil, "b1", "b1")
	wantAdd(t, []string{}, letters(12), letters(12))
	wantAdd(t, []string{"b2"}, "b1", "b1", "b2")
	wantAdd(t, []string{"b2"}, "b20", "b2", "b20")
	wantAdd(t, []string{"b2"}, "b10", "b10", "b2")
	wantAdd(t, []string{"b2"}, "b", "b", "b2")
	wantAdd(t, []string{"b1", "b3"}, "b2", "b1", "b2", "b3")
	all := sortedLive()
	for i, name := range all {
		left := slices.Concat(all[:i], all[i+1:])
		wantAdd(t, left, name, all...)
	}
}

func TestMovedKnown(t *testing.T) {
	three, four := []string{"b1", "b2", "b3"}, []string{"b1", "b2", "b3", "b4"}
	keys := manyKeys(12)
	wantMoved(t, three, four, keys, "k3", "k7")
	wantMoved(t, four, three, keys, "k3", "k7")
	wantMoved(t, three, three, keys)
	wantMoved(t, three, []string{"b2", "b3"}, keys, "k2", "k3", "k4", "k10", "k12")
	wantMoved(t, three, []string{"b1", "b3"}, keys, "k1", "k6", "k7", "k11")
	wantMoved(t, three, []string{"b1", "b2"}, keys, "k5", "k8", "k9")
	wantMoved(t, []string{"b1", "b2"}, []string{"b3", "b4"}, keys, keys...)
	wantMoved(t, three, []string{"b1"}, keys, "k1", "k5", "k6", "k7", "k8", "k9", "k11")
}

func TestMovedKeysInTheirOrder(t *testing.T) {
	three, four := []string{"b1", "b2", "b3"}, []string{"b1", "b2", "b3", "b4"}
	wantMoved(t, three, four, nil)
	wantMoved(t, three, four, []string{})
	wantMoved(t, three, four, []string{"k3"}, "k3")
	wantMoved(t, three, four, []string{"k4"})
	wantMoved(t, three, four, []string{"k7", "k4", "k3"}, "k7", "k3")
	wantMoved(t, three, four, []string{"k3", "k7", "k3", "k4", "k4", "k3"}, "k3", "k7", "k3", "k3")
	wantMoved(t, []string{"b1"}, []string{"b2"}, []string{"", "\x00", "", letters(100)}, "", "\x00", "", letters(100))
	wantMoved(t, []string{"b1"}, []string{"b2"}, manyKeys(60), manyKeys(60)...)
	wantMoved(t, []string{"b1"}, []string{"b1"}, manyKeys(60))
	wantMoved(t, []string{"b1"}, []string{"b2"}, slices.Repeat([]string{"k"}, 60), slices.Repeat([]string{"k"}, 60)...)
}
