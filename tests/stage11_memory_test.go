package tests

import (
	"slices"
	"strings"
	"testing"

	"loop.example/g00206/impl"
)

// watchedBalancer shows whatever is written into its table, its lists or their texts, or behind them.
type watchedBalancer struct {
	b          impl.Balancer
	table      watchedTable
	kept       impl.Table
	live, keys watchedTexts
}

func watchBalancer(b impl.Balancer) watchedBalancer {
	w := watchedBalancer{table: watched(b.Table), live: watchTexts(b.Live), keys: watchTexts(b.Keys)}
	w.kept = keptTable(w.table.table)
	b.Table, b.Live, b.Keys = w.table.table, w.live.list, w.keys.list
	w.b = b
	return w
}

// wantOwn holds texts of an answer against all that the balancer has, and looks whether that is unwritten.
func (w watchedBalancer) wantOwn(t *testing.T, answer []string, of ...watchedTexts) {
	t.Helper()
	wantOwn(t, answer, append(of, w.live, w.keys)...)
	for _, s := range answer {
		wantNew(t, s, bare(w.table.texts))
	}
	w.table.wantUnwritten(t)
	wantKept(t, "any call", w.table.table, w.kept)
}

func TestRoutesWriteIntoNothing(t *testing.T) {
	var s steps
	var counts [6]int
	for range 2500 {
		a, _ := s.someArriving(t, s.someBalancer())
		w := watchBalancer(a.b)
		one := watchTexts([]string{a.address, a.s, a.nonce})
		l := one.list
		r, ok := impl.RouteDatagram(w.b, l[0], l[1], a.now, l[2])
		counts[r.Kind]++
		w.wantOwn(t, []string{r.Backend, r.Answer}, one)
		if again, okAgain := impl.RouteDatagram(a.b, a.address, a.s, a.now, a.nonce); again != r || okAgain != ok {
			t.Fatalf("%+v: %+v %v, then %+v %v", a, r, ok, again, okAgain)
		}
		impl.GoodBalancer(w.b)
		first, _ := impl.FirstPacket(w.b, l[1])
		w.wantOwn(t, []string{first}, one)
		for _, long := range []bool{false, true} {
			key, _ := impl.KeyOf(l[0], l[2], long)
			wantOwn(t, []string{key}, one)
		}
	}
	for kind, n := range counts {
		if n < 30 {
			t.Errorf("kind %d came %d times", kind, n)
		}
	}
}

func TestDrainWritesIntoNothing(t *testing.T) {
	var s steps
	drained := 0
	for range 1500 {
		w := watchBalancer(s.someBalancer())
		one := watchTexts([]string{s.someBackend()})
		for _, backend := range slices.Concat(w.b.Live, one.list) {
			got, ok := impl.DrainBackend(w.b, backend)
			if ok {
				drained++
			}
			w.wantOwn(t, got.Live, one)
			w.wantOwn(t, got.Keys, one)
			wantNewTable(t, got.Table, w.b.Table, bare(w.table.texts), bare(w.live.texts), bare(w.keys.texts), bare(one.texts))
			wantApart(t, got)
			spoil(got)
			w.wantOwn(t, nil, one)
		}
	}
	if drained < 500 {
		t.Error(drained)
	}
}

// wantApart holds the lists of a balancer against each other.
func wantApart(t *testing.T, b impl.Balancer) {
	t.Helper()
	all := append(memoriesOf(b.Table), memoryOf(b.Live), memoryOf(b.Keys))
	for i, m := range all {
		for _, other := range all[:i] {
			if m.from != m.to && m.from < other.to && other.from < m.to {
				t.Fatalf("two lists share memory: %+v", b)
			}
		}
	}
}

// spoil writes into every list of an answer, and behind it.
func spoil(b impl.Balancer) {
	for i := range b.Table.Entries {
		clear(b.Table.Entries[i].Servers[:cap(b.Table.Entries[i].Servers)])
	}
	clear(b.Table.Entries[:cap(b.Table.Entries)])
	clear(b.Live[:cap(b.Live)])
	clear(b.Keys[:cap(b.Keys)])
}

// One memory may be all that is told, Live and Keys too.
func TestRoutesOfOneText(t *testing.T) {
	text := strings.Repeat("7", 20)
	list := []string{text[:12], text[:16], text[4:]}
	b := retryBalancer()
	b.Live, b.Keys = list[:1], list[1:]
	a := arriving{b, text[:18], longPacket(impl.FormInitial, 1, text, text, "", letters(58)), 7, text[:12]}
	wantComeAgain(t, a, comeAgainElsewhere(t, a, 1, text, text))
	got := wantDrain(t, b, text[:12])
	wantNew(t, got.Keys[0], text)
	wantTexts(t, "DrainBackend", list, []string{text[:12], text[:16], text[4:]})
}

// What lies behind a list's length is not looked at.
func TestRoutesLookAtTheListsAlone(t *testing.T) {
	live := []string{"b2", "b3", "b1", "no backend"}
	keys := []string{firstKey, secondKey, firstKey, "short"}
	b := plainBalancer()
	b.Live, b.Keys = live[:2], keys[:0]
	wantBalancer(t, b, "two of four are live, none of the keys is there")
	wantPicked(t, arrivingAt(b, "\x40"+strangeId), "aaddr")
	wantDrain(t, b, "b2", "b3")
	b.Live = live[:0]
	wantDropped(t, arrivingAt(b, "\x40"+strangeId))
	b.Live, b.Retry = live[:3], true
	wantNoBalancer(t, b, "the third one falls")
	b.Live, b.Keys = live[:2], keys[:1]
	s := initialPacket(broughtToken(t, secondKey, 7, false), 9)
	wantDropped(t, arrivingAt(b, s))
	b.Keys = keys[:2]
	wantPicked(t, arrivingAt(b, s), "d"+strangeId)
	b.Keys = keys[:3]
	wantNoBalancer(t, b, "three keys")
	b.Keys = keys[2:4]
	wantNoBalancer(t, b, "a short key")
	wantTexts(t, "any call", live, []string{"b2", "b3", "b1", "no backend"})
	wantTexts(t, "any call", keys, []string{firstKey, secondKey, firstKey, "short"})
}
