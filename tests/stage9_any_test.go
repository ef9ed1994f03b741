package tests

import (
	"slices"
	"strings"
	"testing"

	"loop.example/g00206/impl"
)

func liveTold(l []string) bool {
	sorted := slices.Compact(slices.Sorted(slices.Values(l)))
	return len(l) <= 12 && slices.Equal(l, sorted) && !slices.ContainsFunc(l, func(s string) bool { return !backendTold(s) })
}

// rankElsewhere puts each backend behind all those that have its score or a higher one.
func rankElsewhere(l []string, key string) []string {
	var ranked []string
	for _, name := range l {
		at := 0
		for at < len(ranked) && scoreElsewhere(ranked[at], key) >= scoreElsewhere(name, key) {
			at++
		}
		ranked = slices.Insert(ranked, at, name)
	}
	return ranked
}

func movedElsewhere(a, b, keys []string) []string {
	var moved []string
	for _, key := range keys {
		if rankElsewhere(a, key)[0] != rankElsewhere(b, key)[0] {
			moved = append(moved, key)
		}
	}
	return moved
}

// liveSet is a live set of at most n backends.
func (s *steps) liveSet(n int) []string {
	names := map[string]int{}
	for range n {
		if s.below(8) == 0 {
			pair := tiedPairs()[s.below(3)]
			names[pair[0]], names[pair[1]] = 1, 1
		} else {
			names[letters(s.below(11))+string(rune('a'+s.below(26)))] = 1
		}
	}
	var l []string
	for name := range names {
		l = append(l, name)
	}
	slices.Sort(l)
	return l[:min(n, len(l))]
}

// someLive is mostly a live set.
func (s *steps) someLive() []string {
	l := s.liveSet(s.below(13))
	switch s.below(8) {
	case 0:
		l = append(l, s.someBackend())
	case 1:
		l = append(l, s.liveSet(s.below(13))...)
		slices.Sort(l)
	case 2:
		if len(l) > 0 {
			l[s.below(len(l))] = s.text(s.below(14))
		}
	}
	return l
}

func (s *steps) someKey() string {
	switch s.below(12) {
	case 0:
		return tiedKey
	case 1:
		return s.text(s.below(150))
	}
	return s.text(s.below(12))
}

func (s *steps) someKeys() []string {
	n := s.below(6)
	if s.below(10) == 0 {
		n = 55 + s.below(10)
	}
	var l []string
	for range n {
		l = append(l, s.someKey())
	}
	return l
}

func TestPicksAtAnyArguments(t *testing.T) {
	var s steps
	good := 0
	for range 3000 {
		l, key := s.someLive(), s.someKey()
		wantLive(t, l, liveTold(l))
		if !liveTold(l) || len(key) > 100 {
			wantNoPick(t, l, key, "any arguments")
			wantNoRank(t, l, key, "any arguments")
			continue
		}
		ranked := rankElsewhere(l, key)
		wantRank(t, l, key, ranked...)
		if len(l) == 0 {
			wantNoPick(t, l, key, "any arguments")
			continue
		}
		good++
		wantPick(t, l, key, ranked[0])
	}
	if good < 1500 {
		t.Error(good)
	}
}

func TestSetsAtAnyArguments(t *testing.T) {
	var s steps
	dropped, added := 0, 0
	for range 6000 {
		l, name := s.someLive(), s.someBackend()
		if len(l) > 0 && s.below(2) == 0 {
			name = l[s.below(len(l))]
		}
		there := slices.Contains(l, name)
		if liveTold(l) && there {
			dropped++
			wantDrop(t, l, name, slices.DeleteFunc(slices.Clone(l), func(s string) bool { return s == name })...)
		} else {
			wantNoDrop(t, l, name, "any arguments")
		}
		if liveTold(l) && !there && len(l) < 12 && backendTold(name) {
			added++
			wantAdd(t, l, name, slices.Sorted(slices.Values(append(slices.Clone(l), name)))...)
		} else {
			wantNoAdd(t, l, name, "any arguments")
		}
	}
	if dropped < 500 || added < 500 {
		t.Error(dropped, added)
	}
}

func TestMovedAtAnyArguments(t *testing.T) {
	var s steps
	good := 0
	for range 1500 {
		a, b, keys := s.someLive(), s.someLive(), s.someKeys()
		long := slices.ContainsFunc(keys, func(s string) bool { return len(s) > 100 })
		if !liveTold(a) || !liveTold(b) || len(a) == 0 || len(b) == 0 || len(keys) > 60 || long {
			wantNoMoved(t, a, b, keys, "any arguments")
			continue
		}
		good++
		wantMoved(t, a, b, keys, movedElsewhere(a, b, keys)...)
	}
	if good < 300 {
		t.Error(good)
	}
}

// pickedKeys are keys that are told apart, the tied one among them.
func (s *steps) pickedKeys(n int) []string {
	l := []string{tiedKey}
	for len(l) < n {
		l = append(l, s.text(1+s.below(100)))
	}
	return l
}

func picked(t *testing.T, l []string, key string) string {
	t.Helper()
	name, ok := impl.PickBackend(l, key)
	if !ok {
		t.Fatalf("nothing is picked from %q", l)
	}
	return name
}

// Promise 9: when a backend goes just its keys choose anew, and it is who is second that takes them.
func TestJustItsKeysChooseAnew(t *testing.T) {
	var s steps
	gone, stayed := 0, 0
	for range 60 {
		l := s.liveSet(2 + s.below(11))
		if len(l) < 2 {
			continue
		}
		keys := s.pickedKeys(20)
		for _, name := range l {
			less, ok := impl.DropBackend(l, name)
			if !ok {
				t.Fatal(l, name)
			}
			var its []string
			for _, key := range keys {
				ranked, _ := impl.RankBackends(l, key)
				if ranked[0] != name {
					stayed++
					wantPick(t, less, key, ranked[0])
					continue
				}
				gone++
				its = append(its, key)
				wantPick(t, less, key, ranked[1])
			}
			wantMoved(t, l, less, keys, its...)
		}
	}
	if gone < 500 || stayed < 2000 {
		t.Error(gone, stayed)
	}
}

// Promise 9: when a backend comes keys choose it or stay.
func TestKeysChooseWhoComesOrStay(t *testing.T) {
	var s steps
	chosen, stayed := 0, 0
	for range 200 {
		l := s.liveSet(1 + s.below(11))
		comes := s.someBackend()
		more, ok := impl.AddBackend(l, comes)
		if !ok {
			continue
		}
		keys := s.pickedKeys(20)
		var its []string
		for _, key := range keys {
			switch now := picked(t, more, key); now {
			case comes:
				chosen++
				its = append(its, key)
			case picked(t, l, key):
				stayed++
			default:
				t.Errorf("%q chooses %q, when %q comes to %q", key, now, comes, l)
			}
		}
		wantMoved(t, l, more, keys, its...)
		wantMoved(t, more, l, keys, its...)
		if back, ok := impl.DropBackend(more, comes); !ok || !slices.Equal(back, l) {
			t.Errorf("%q comes to %q and goes: %q", comes, l, back)
		}
	}
	if chosen < 200 || stayed < 1000 {
		t.Error(chosen, stayed)
	}
}

// Promise 9: one behind the other takes what those ahead of it leave, down to the last one.
func TestWhoIsSecondTakesWhatTheFirstLeaves(t *testing.T) {
	var s steps
	for range 100 {
		l := s.liveSet(1 + s.below(12))
		for _, key := range s.pickedKeys(4) {
			ranked, ok := impl.RankBackends(l, key)
			if !ok || !slices.Equal(slices.Sorted(slices.Values(ranked)), l) {
				t.Fatalf("%q of %q", ranked, l)
			}
			left := l
			for i, name := range ranked {
				wantPick(t, left, key, name)
				wantRank(t, left, key, ranked[i:]...)
				left, ok = impl.DropBackend(left, name)
				if !ok {
					t.Fatalf("%q can't go from %q", name, l)
				}
			}
			wantNoPick(t, left, key, "all are gone")
		}
	}
}

// Scores are as good as drawn by lot, so that no backend has far more or fewer keys than its part.
func TestKeysAreSpread(t *testing.T) {
	var s steps
	counts := map[string]int{}
	for range 2400 {
		counts[picked(t, sortedLive(), s.text(20))]++
	}
	for _, name := range sortedLive() {
		if counts[name] < 120 || counts[name] > 280 {
			t.Errorf("%q has %d of 2400 keys", name, counts[name])
		}
	}
}

// watchedTexts is a list in one memory of texts, with more behind its length.
type watchedTexts struct {
	list  []string
	whole []string
	kept  []string
	texts []byte
	was   string
}

// behindTexts would all be backends and keys, if someone looked behind a list's length.
func behindTexts() []string {
	return []string{"zzzz1", "zzzz2", "zzzz3"}
}

func watchTexts(l []string) watchedTexts {
	var w watchedTexts
	all := slices.Concat(l, behindTexts())
	w.texts = []byte(strings.Join(all, ""))
	w.was = string(w.texts)
	one := bare(w.texts)
	for _, s := range all {
		w.whole = append(w.whole, one[:len(s)])
		one = one[len(s):]
	}
	w.kept = all
	w.list = w.whole[:len(l)]
	return w
}

func (w watchedTexts) wantUnwritten(t *testing.T) {
	t.Helper()
	if string(w.texts) != w.was || !slices.Equal(w.whole, w.kept) {
		t.Fatalf("%q is written into", w.kept)
	}
}

// wantOwn holds an answer against the lists and texts it was made of.
func wantOwn(t *testing.T, answer []string, of ...watchedTexts) {
	t.Helper()
	own := memoryOf(answer)
	for _, w := range of {
		given := memoryOf(w.whole)
		if len(answer) > 0 && own.from < given.to && given.from < own.to {
			t.Fatalf("%q shares the memory of what was given", answer)
		}
		for _, s := range answer {
			wantNew(t, s, bare(w.texts))
		}
		w.wantUnwritten(t)
	}
}

func TestPicksWriteIntoNothing(t *testing.T) {
	var s steps
	for range 400 {
		a, b := watchTexts(s.someLive()), watchTexts(s.someLive())
		keys := watchTexts(s.someKeys())
		one := watchTexts([]string{s.someBackend(), s.someKey()})
		name, key := one.list[0], one.list[1]
		impl.ScoreOf(name, key)
		impl.GoodLive(a.list)
		pick, _ := impl.PickBackend(a.list, key)
		wantOwn(t, []string{pick}, a, one)
		ranked, _ := impl.RankBackends(a.list, key)
		wantOwn(t, ranked, a, one)
		for _, gone := range slices.Concat(a.list, []string{name}) {
			less, _ := impl.DropBackend(a.list, gone)
			wantOwn(t, less, a, one)
		}
		more, _ := impl.AddBackend(a.list, name)
		wantOwn(t, more, a, one)
		moved, _ := impl.MovedKeys(a.list, b.list, keys.list)
		wantOwn(t, moved, a, b, keys)
		same, _ := impl.MovedKeys(a.list, a.list, keys.list)
		wantOwn(t, same, a, keys)
	}
}

// What is made of one set stays as it is, whatever is made of that set, or of it, later.
func TestPicksKeepTheirAnswers(t *testing.T) {
	all := sortedLive()
	less, _ := impl.DropBackend(all, "b10")
	kept := slices.Clone(less)
	more, _ := impl.AddBackend(less, "b11")
	other, _ := impl.AddBackend(less, "zzz")
	ranked, _ := impl.RankBackends(less, "key")
	wantTexts(t, "what came later", less, kept)
	wantTexts(t, "AddBackend", more, strings.Fields("alpha b0 b1 b11 b2 beta delta e eta7 gamma z zz"))
	wantTexts(t, "AddBackend", other, strings.Fields("alpha b0 b1 b2 beta delta e eta7 gamma z zz zzz"))
	for _, l := range [][]string{more, other, ranked} {
		clear(l)
	}
	wantTexts(t, "what is written into an answer", less, kept)
	wantTexts(t, "what is written into an answer", all, sortedLive())
	wantRank(t, all, "key", strings.Fields("beta b1 gamma b2 b10 zz delta e b0 eta7 alpha z")...)
}

// What lies behind a list's length is not looked at.
func TestPicksLookAtTheListAlone(t *testing.T) {
	row := append(sortedLive(), "zzz", "", "no backend")
	for n := 1; n <= 12; n++ {
		wantLive(t, row[:n], true)
		wantPick(t, row[:n], "key", rankElsewhere(row[:n], "key")[0])
		wantRank(t, row[:n], "key", rankElsewhere(row[:n], "key")...)
		wantDrop(t, row[:n], row[0], row[1:n]...)
		if n < 12 {
			wantAdd(t, row[:n], "zzz", append(slices.Clone(row[:n]), "zzz")...)
		}
		wantTexts(t, "a call", row, append(sortedLive(), "zzz", "", "no backend"))
	}
	keys := append(manyKeys(60), letters(101))
	wantMoved(t, []string{"b1"}, []string{"b2"}, keys[:60], manyKeys(60)...)
	wantTexts(t, "MovedKeys", keys, append(manyKeys(60), letters(101)))
}
