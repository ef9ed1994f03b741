package tests

import (
	"fmt"
	"slices"
	"strings"
	"testing"
)

// noLive are lists that are no live sets, by what is wrong with them.
func noLive() map[string][]string {
	l := map[string][]string{
		"one too many":       append(sortedLive(), "zzz"),
		"many too many":      slices.Repeat(sortedLive(), 50),
		"one twice":          {"b1", "b1"},
		"one twice, far off": {"b1", "b2", "b1"},
		"falling":            {"b2", "b1"},
		"falling at the end": {"b1", "b3", "b2"},
		"numbers in a row":   {"b9", "b10"},
		"the longer first":   {"b1", "b"},
		"twelve falling":     slices.Sorted(slices.Values(sortedLive())),
	}
	slices.Reverse(l["twelve falling"])
	for _, name := range noBackends() {
		l[fmt.Sprintf("no backend %q", name)] = []string{name}
		l[fmt.Sprintf("a backend ahead of %q", name)] = []string{"a", name}
		with := append(sortedLive()[:11], name)
		slices.Sort(with)
		l[fmt.Sprintf("among eleven %q", name)] = with
	}
	return l
}

func TestPicksRefused(t *testing.T) {
	for why, l := range noLive() {
		for _, key := range []string{"", "key", letters(100)} {
			wantNoPick(t, l, key, why)
			wantNoRank(t, l, key, why)
		}
	}
	wantNoPick(t, nil, "key", "nothing to pick from")
	wantNoPick(t, []string{}, "", "nothing to pick from")
	for _, size := range []int{101, 102, 4000, 100000} {
		for _, l := range [][]string{nil, {"b1"}, {"b1", "b2"}, sortedLive()} {
			wantNoPick(t, l, letters(size), "a long key")
			wantNoRank(t, l, letters(size), "a long key")
			wantNoRank(t, l, strings.Repeat("\x00", size), "a long key")
		}
	}
}

// An empty set is a live set, and all of it is nothing.
func TestRankOfNothing(t *testing.T) {
	wantRank(t, nil, "key")
	wantRank(t, []string{}, "")
	wantRank(t, nil, letters(100))
}

func TestDropRefused(t *testing.T) {
	for why, l := range noLive() {
		wantNoDrop(t, l, "b1", why)
		wantNoDrop(t, l, "nobody", why)
		for _, name := range l {
			wantNoDrop(t, l, name, why)
		}
	}
	for _, l := range [][]string{nil, {}, {"b1"}, {"b", "b11"}, sortedLive()} {
		for _, name := range []string{"b12", "a", "zzz", letters(12), "0"} {
			wantNoDrop(t, l, name, "one that is not there")
		}
		for _, name := range noBackends() {
			wantNoDrop(t, l, name, "one that is no backend")
		}
	}
	wantNoDrop(t, []string{"b1"}, "b", "a beginning of one")
	wantNoDrop(t, []string{"b1"}, "b10", "one and more")
}

func TestAddRefused(t *testing.T) {
	for why, l := range noLive() {
		for _, name := range []string{"b1", "nobody", "a", "zzz", ""} {
			wantNoAdd(t, l, name, why)
		}
	}
	all := sortedLive()
	for n := range len(all) + 1 {
		for _, name := range all[:n] {
			wantNoAdd(t, all[:n], name, "one that is there")
		}
		for _, name := range noBackends() {
			wantNoAdd(t, all[:n], name, "one that is no backend")
		}
	}
	for _, name := range []string{"0", "aa", "b11", "nobody", "zzz"} {
		wantNoAdd(t, all, name, "no room")
		want := append(slices.Clone(all[:11]), name)
		slices.Sort(want)
		wantAdd(t, all[:11], name, want...)
	}
}

func TestMovedRefused(t *testing.T) {
	one, two, keys := []string{"b1"}, []string{"b1", "b2"}, []string{"k1", "k2"}
	for why, l := range noLive() {
		wantNoMoved(t, l, two, keys, why)
		wantNoMoved(t, two, l, keys, why)
		wantNoMoved(t, l, l, keys, why)
		wantNoMoved(t, two, l, nil, why)
	}
	for _, empty := range [][]string{nil, {}} {
		wantNoMoved(t, empty, one, keys, "no first set")
		wantNoMoved(t, one, empty, keys, "no second set")
		wantNoMoved(t, empty, empty, keys, "no set")
		wantNoMoved(t, empty, empty, nil, "nothing at all")
		wantNoMoved(t, one, empty, nil, "no second set and no key")
	}
	wantNoMoved(t, one, two, manyKeys(61), "a key too many")
	wantNoMoved(t, one, two, manyKeys(5000), "many keys too many")
	wantNoMoved(t, one, two, slices.Repeat([]string{"k"}, 61), "one key too often")
	wantNoMoved(t, one, two, make([]string, 61), "an empty key too often")
}

func TestMovedWithOneLongKey(t *testing.T) {
	one, other := []string{"b1"}, []string{"b2"}
	for n := range 60 {
		keys := manyKeys(60)
		keys[n] = letters(101)
		wantNoMoved(t, one, other, keys, "a long key")
		wantNoMoved(t, one, one, keys[:n+1], "a long key")
		keys[n] = letters(100)
		wantMoved(t, one, other, keys, keys...)
	}
	wantNoMoved(t, one, other, []string{letters(100000)}, "a long key")
}
