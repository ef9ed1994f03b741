package tests

import (
	"slices"
	"strings"
	"testing"

	"loop.example/g00206/impl"
)

// scoreElsewhere is a score by Go's own SHA-256.
func scoreElsewhere(backend, key string) int {
	return numberFrom(libraryHash(backend + "\x00" + key)[:7])
}

// sortedLive is a live set of MaxLive backends, in which a text that is another one's beginning comes ahead of it.
func sortedLive() []string {
	return []string{"alpha", "b0", "b1", "b10", "b2", "beta", "delta", "e", "eta7", "gamma", "z", "zz"}
}

// noBackends are texts that are none, each near to one that is.
func noBackends() []string {
	l := []string{"", letters(13), letters(100), " ", "b 1", "b1 ", " b1", "b-1", "b_1", "b.1", "*", "b1\n", "b1\x00", "\x00", "\x00b1", "\xc3\xa4", "b\xff"}
	for _, near := range "`{/:@[AZ" {
		l = append(l, string(near), "b"+string(near), string(near)+"b", letters(11)+string(near))
	}
	return l
}

func wantScore(t *testing.T, backend, key string, want int) {
	t.Helper()
	if got, ok := impl.ScoreOf(backend, key); got != want || !ok {
		t.Errorf("ScoreOf %q and %q: %d %v, not %d", backend, key, got, ok, want)
	}
}

func wantNoScore(t *testing.T, backend, key string) {
	t.Helper()
	if got, ok := impl.ScoreOf(backend, key); got != 0 || ok {
		t.Errorf("ScoreOf %q and %q: %d %v", backend, key, got, ok)
	}
}

// The numbers were reckoned by Python's hashlib.
func TestScoresKnown(t *testing.T) {
	for _, c := range []struct {
		backend, key string
		score        int
	}{
		{"b1", "key", 68122178362348546},
		{"b2", "key", 51562767756490807},
		{"b3", "key", 38003353335429530},
		{"b1", "", 4318708554251194},
		{"a", "\x00", 65988146483170596},
		{"0", "", 64446830563743731},
		{"a", "0", 49795638452185874},
		{"z9", "\xff\xfe\x00\x80", 66130928552595392},
		{"abcdefghijkl", strings.Repeat("0123456789", 10), 40455797116013834},
		{"abcdefghijkl", strings.Repeat("\x00", 100), 10729636541087594},
		// Hashes that begin with two bytes 0, and with two bytes 255.
		{"b1", "low1930", 128930949381},
		{"b1", "low18539", 72057400490435539},
	} {
		wantScore(t, c.backend, c.key, c.score)
		if elsewhere := scoreElsewhere(c.backend, c.key); elsewhere != c.score {
			t.Errorf("the test's own score of %q and %q is %d", c.backend, c.key, elsewhere)
		}
	}
}

func TestScoresOfAllLengths(t *testing.T) {
	var s steps
	for size := range 101 {
		for backend := 1; backend <= 12; backend++ {
			name, key := letters(backend), s.text(size)
			wantScore(t, name, key, scoreElsewhere(name, key))
			noughts := strings.Repeat("\x00", size)
			wantScore(t, name, noughts, scoreElsewhere(name, noughts))
		}
	}
}

// Without a byte 0 between, these pairs would be one text.
func TestScoresKeepBackendAndKeyApart(t *testing.T) {
	seen := map[int]string{}
	all := "abcdefghijkl"
	for at := 1; at <= len(all); at++ {
		score, ok := impl.ScoreOf(all[:at], all[at:])
		if other, there := seen[score]; there || !ok {
			t.Errorf("%q and %q have one score", all[:at], other)
		}
		seen[score] = all[:at]
		wantScore(t, all[:at], all[at:], scoreElsewhere(all[:at], all[at:]))
	}
}

func TestScoresOfEveryByte(t *testing.T) {
	for b := range 256 {
		one := string([]byte{byte(b)})
		wantScore(t, "b1", one, scoreElsewhere("b1", one))
		for _, name := range []string{one, "b" + one, one + "b", letters(11) + one} {
			if backendTold(name) {
				wantScore(t, name, "key", scoreElsewhere(name, "key"))
			} else {
				wantNoScore(t, name, "key")
			}
		}
	}
}

func TestScoresRefused(t *testing.T) {
	for _, name := range noBackends() {
		for _, key := range []string{"", "key", letters(100), letters(101)} {
			wantNoScore(t, name, key)
		}
	}
	for _, size := range []int{101, 102, 4000, 4001, 100000} {
		wantNoScore(t, "b1", letters(size))
		wantNoScore(t, letters(12), strings.Repeat("\x00", size))
	}
	wantScore(t, letters(12), letters(100), scoreElsewhere(letters(12), letters(100)))
}

func wantLive(t *testing.T, l []string, want bool) {
	t.Helper()
	kept := slices.Clone(l)
	if impl.GoodLive(l) != want {
		t.Errorf("GoodLive %q is not %v", l, want)
	}
	wantTexts(t, "GoodLive", l, kept)
}

func TestLiveSets(t *testing.T) {
	wantLive(t, nil, true)
	wantLive(t, []string{}, true)
	wantLive(t, []string{"b"}, true)
	wantLive(t, []string{letters(12)}, true)
	wantLive(t, []string{"b", "b1"}, true)
	wantLive(t, []string{"9", "a"}, true)
	wantLive(t, []string{"b10", "b2"}, true)
	all := sortedLive()
	for n := range len(all) + 1 {
		wantLive(t, all[:n], true)
		wantLive(t, all[len(all)-n:], true)
	}
	wantLive(t, append(sortedLive(), "zzz"), false)
	wantLive(t, slices.Repeat(sortedLive(), 1000), false)
}

func TestLiveSetsThatAreNone(t *testing.T) {
	wantLive(t, []string{"b1", "b1"}, false)
	wantLive(t, []string{"b2", "b10"}, false)
	wantLive(t, []string{"b1", "b"}, false)
	wantLive(t, []string{"a", "9"}, false)
	all := sortedLive()
	for i := range all {
		for j := range i {
			swapped, twice := slices.Clone(all), slices.Clone(all)
			swapped[i], swapped[j] = all[j], all[i]
			twice[i] = all[j]
			wantLive(t, swapped, false)
			wantLive(t, twice, false)
		}
		wantLive(t, slices.Insert(slices.Clone(all[:11]), min(i, 11), all[min(i, 10)]), false)
	}
	for _, name := range noBackends() {
		wantLive(t, []string{name}, false)
		with := append(slices.Clone(all[:11]), name)
		slices.Sort(with)
		wantLive(t, with, false)
		wantLive(t, append(slices.Clone(all[:5]), name), false)
		wantLive(t, append([]string{name}, all[:5]...), false)
	}
}

// Of four backends there are 24 orders, and one of them is rising.
func TestLiveSetsInEveryOrder(t *testing.T) {
	names := []string{"b", "b1", "c", "d"}
	good := 0
	for _, order := range orders(len(names)) {
		var l []string
		for _, i := range order {
			l = append(l, names[i])
		}
		wantLive(t, l, slices.Equal(l, names))
		if impl.GoodLive(l) {
			good++
		}
	}
	if good != 1 {
		t.Error(good)
	}
}
