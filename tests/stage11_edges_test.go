package tests

import (
	"slices"
	"strings"
	"testing"

	"loop.example/g00206/impl"
)

// sameBalancer holds empty and nil lists for the same.
func sameBalancer(a, b impl.Balancer) bool {
	return sameTable(a.Table, b.Table) && slices.Equal(a.Live, b.Live) && a.Short == b.Short && a.Retry == b.Retry &&
		slices.Equal(a.Keys, b.Keys) && a.Life == b.Life && a.Version == b.Version
}

// wantBalancer holds every function that takes one to a good balancer.
func wantBalancer(t *testing.T, b impl.Balancer, why string) {
	t.Helper()
	if !impl.GoodBalancer(b) {
		t.Errorf("%s: %+v is good", why, b)
	}
	if r, ok := impl.RouteDatagram(b, "addr", "", 0, "nonce of 12."); r.Kind != impl.RouteDrop || !ok {
		t.Errorf("%s: %+v: %+v %v", why, b, r, ok)
	}
	s := initialPacket("", 20)
	if p, ok := impl.FirstPacket(b, s); p != s || !ok {
		t.Errorf("%s: %+v: %x %v", why, b, p, ok)
	}
	for _, backend := range b.Live {
		if _, ok := impl.DrainBackend(b, backend); !ok {
			t.Errorf("%s: %+v: %s is not drained", why, b, backend)
		}
	}
}

// wantNoBalancer holds them to one that is not good, with all else as said.
func wantNoBalancer(t *testing.T, b impl.Balancer, why string) {
	t.Helper()
	if impl.GoodBalancer(b) {
		t.Errorf("%s: %+v is not good", why, b)
	}
	for _, s := range []string{"", "\x40\x00\x07nonces", "\x40" + strangeId + letters(20), initialPacket("", 80), longPacket(impl.FormInitial, 2, strangeId, "me", "", "p")} {
		wantNoRoute(t, arrivingAt(b, s), why)
		wantNoFirst(t, b, s, why)
	}
	for _, backend := range slices.Concat(b.Live, []string{"b2", "nobody", ""}) {
		wantNoDrain(t, b, backend, why)
	}
}

func wantFirst(t *testing.T, b impl.Balancer, s, want string) {
	t.Helper()
	if p, ok := impl.FirstPacket(b, s); p != want || !ok {
		t.Errorf("%x: %x %v, not %x", s, p, ok, want)
	}
}

func wantNoFirst(t *testing.T, b impl.Balancer, s, why string) {
	t.Helper()
	if p, ok := impl.FirstPacket(b, s); p != "" || ok {
		t.Errorf("%s: %+v: %x: %x %v", why, b, s, p, ok)
	}
}

func wantDrain(t *testing.T, b impl.Balancer, backend string, live ...string) impl.Balancer {
	t.Helper()
	want := b
	want.Live = live
	got, ok := impl.DrainBackend(b, backend)
	if !sameBalancer(got, want) || !ok {
		t.Errorf("%+v without %s: %+v %v", b, backend, got, ok)
	}
	return got
}

func wantNoDrain(t *testing.T, b impl.Balancer, backend, why string) {
	t.Helper()
	if got, ok := impl.DrainBackend(b, backend); !sameBalancer(got, impl.Balancer{}) || ok {
		t.Errorf("%s: %+v without %q: %+v %v", why, b, backend, got, ok)
	}
}

func wantKeyOf(t *testing.T, address, dcid string, long bool, want string) {
	t.Helper()
	if key, ok := impl.KeyOf(address, dcid, long); key != want || !ok {
		t.Errorf("%q, %q, %v: %q %v, not %q", address, dcid, long, key, ok, want)
	}
}

func wantNoKeyOf(t *testing.T, address, dcid string) {
	t.Helper()
	for _, long := range []bool{false, true} {
		if key, ok := impl.KeyOf(address, dcid, long); key != "" || ok {
			t.Errorf("%q, %q, %v: %q %v", address, dcid, long, key, ok)
		}
	}
}

func TestNumbersOfBalancers(t *testing.T) {
	for _, plain := range bothBalancers() {
		for _, n := range []int{1, 2, 8, impl.MaxId - 1, impl.MaxId} {
			b := plain
			b.Short = n
			wantBalancer(t, b, "a good Short")
		}
		for _, n := range []int{0, -1, impl.MaxId + 1, 256 + 8, minInt, maxInt} {
			b := plain
			b.Short = n
			wantNoBalancer(t, b, "no Short")
		}
		for _, n := range []int{0, 1, 10, impl.MaxLife - 1, impl.MaxLife} {
			b := plain
			b.Life = n
			wantBalancer(t, b, "a good Life")
		}
		for _, n := range []int{-1, impl.MaxLife + 1, impl.MaxTime, minInt, maxInt} {
			b := plain
			b.Life = n
			wantNoBalancer(t, b, "no Life")
		}
		for _, n := range []int{1, 2, 65536, mostVersion - 1, mostVersion} {
			b := plain
			b.Version = n
			wantBalancer(t, b, "a good Version")
		}
		for _, n := range []int{0, -1, mostVersion + 1, mostVersion + 2, minInt, maxInt} {
			b := plain
			b.Version = n
			wantNoBalancer(t, b, "no Version")
		}
	}
	wantNoBalancer(t, impl.Balancer{}, "nothing")
	wantBalancer(t, impl.Balancer{Short: 1, Version: 1}, "as little as can be")
}

func TestKeysOfBalancers(t *testing.T) {
	for _, keys := range [][]string{{firstKey}, {firstKey, secondKey}, {firstKey, firstKey}, {noughts}} {
		b := plainBalancer()
		b.Keys = keys
		wantNoBalancer(t, b, "keys without Retry")
		b.Retry = true
		wantBalancer(t, b, "one key or two")
	}
	for _, keys := range [][]string{nil, {}} {
		b := plainBalancer()
		b.Keys = keys
		wantBalancer(t, b, "no keys and no Retry")
		b.Retry = true
		wantNoBalancer(t, b, "Retry without keys")
	}
	for _, keys := range [][]string{{firstKey, secondKey, thirdKey}, {firstKey, firstKey, firstKey}, {""}, {firstKey, ""}, {"", firstKey},
		{letters(15)}, {letters(17)}, {firstKey, letters(15)}, {firstKey, letters(17)}, {letters(15), firstKey}, {letters(17), firstKey}, {letters(32)}} {
		for _, retry := range []bool{false, true} {
			b := plainBalancer()
			b.Keys, b.Retry = keys, retry
			wantNoBalancer(t, b, "other keys")
		}
	}
}

func TestLiveSetsOfBalancers(t *testing.T) {
	for _, b := range bothBalancers() {
		for n := range impl.MaxLive + 1 {
			b.Live = sortedLive()[:n]
			wantBalancer(t, b, "a live set")
		}
		for why, l := range noLive() {
			b.Live = l
			wantNoBalancer(t, b, why)
		}
	}
}

func TestTablesOfBalancers(t *testing.T) {
	one := impl.Entry{Config: plainConfig(0), Servers: manyServers(12, 1), Next: mostIssued}
	two := impl.Entry{Config: plainConfig(1), Servers: manyServers(3, 1)}
	three := impl.Entry{Config: plainConfig(2)}
	for _, b := range bothBalancers() {
		for _, a := range []impl.Table{{}, tableOf(), tableOf(one), tableOf(three), tableOf(one, three), tableOf(one, two, three)} {
			b.Table = a
			wantBalancer(t, b, "a good table")
		}
		for _, a := range []impl.Table{
			tableOf(two, one), tableOf(one, one), tableOf(one, two, three, three), tableOf(impl.Entry{}),
			tableOf(impl.Entry{Config: plainConfig(3)}), tableOf(impl.Entry{Config: plainConfig(-1)}),
			tableOf(impl.Entry{Config: plainConfig(0), Next: -1}), tableOf(impl.Entry{Config: plainConfig(0), Next: mostIssued + 1}),
			tableOf(impl.Entry{Config: impl.IdConfig{Server: 1, Nonce: 3}}), tableOf(impl.Entry{Config: impl.IdConfig{Server: 1, Nonce: 4, Key: letters(15)}}),
			tableOf(impl.Entry{Config: plainConfig(0), Servers: manyServers(13, 1)}), tableOf(impl.Entry{Config: plainConfig(0), Servers: manyServers(2, 2)}),
			tableOf(impl.Entry{Config: plainConfig(0), Servers: serversOf("22", "b2", "11", "b1")}), tableOf(impl.Entry{Config: plainConfig(0), Servers: serversOf("11", "b1", "22", "b1")}),
			tableOf(impl.Entry{Config: plainConfig(0), Servers: serversOf("11", "B1")}),
		} {
			b.Table = a
			wantNoBalancer(t, b, "a table that is not good")
		}
	}
}

// arrivals go each another way.
func arrivals(t *testing.T) []arriving {
	t.Helper()
	plain, retry := plainBalancer(), retryBalancer()
	return []arriving{
		arrivingAt(plain, ""), arrivingAt(plain, "\x40\x00\x07nonces"), arrivingAt(plain, "\x40"+strangeId), arrivingAt(plain, initialPacket("", 80)),
		arrivingAt(plain, longPacket(impl.FormInitial, 2, strangeId, "me", "", "p")), arrivingAt(plain, longPacket(impl.FormZero, 2, strangeId, "me", "", "p")),
		arrivingAt(retry, initialPacket("", 80)), arrivingAt(retry, initialPacket("", 8)), arrivingAt(retry, initialPacket("token", 80)),
		arrivingAt(retry, initialPacket(broughtToken(t, firstKey, 7, false), 80)),
	}
}

func wantSomeRoute(t *testing.T, a arriving) {
	t.Helper()
	if r, ok := impl.RouteDatagram(a.b, a.address, a.s, a.now, a.nonce); r.Kind < impl.RouteOwner || r.Kind > impl.RouteVersions || !ok {
		t.Errorf("%+v: %+v %v", a, r, ok)
	}
}

func TestArgumentsOfRoutes(t *testing.T) {
	for _, a := range arrivals(t) {
		own := a
		for _, n := range []int{1, 2, 17, impl.MaxAddress} {
			a.address = letters(n)
			wantSomeRoute(t, a)
		}
		for _, n := range []int{0, impl.MaxAddress + 1, 20, 100, 1500} {
			a.address = letters(n)
			wantNoRoute(t, a, "no address")
		}
		a = own
		for _, n := range []int{0, 1, impl.MaxTime - 1, impl.MaxTime} {
			a.now = n
			wantSomeRoute(t, a)
		}
		for _, n := range []int{-1, impl.MaxTime + 1, minInt, maxInt} {
			a.now = n
			wantNoRoute(t, a, "no time")
		}
		a = own
		for _, n := range []int{0, 1, 11, 13, 16, 24} {
			a.nonce = letters(n)
			wantNoRoute(t, a, "no nonce")
		}
		a.nonce = letters(12)
		wantSomeRoute(t, a)
	}
}

func TestDatagramsOfTheEdges(t *testing.T) {
	for _, b := range bothBalancers() {
		for _, first := range []string{"\x00", "\x40", "\x7f", "\x80", "\xc0", "\xff"} {
			wantDropped(t, arrivingAt(b, first))
			wantNoRoute(t, arrivingAt(b, first+letters(impl.MaxPayload)), "a byte too many")
			wantNoRoute(t, arrivingAt(b, first+letters(100000)), "many too many")
		}
		wantDropped(t, arrivingAt(b, ""))
		for _, n := range []int{1, impl.MaxPayload - 9, impl.MaxPayload - 8} {
			mine, strange := arrivingAt(b, "\x40\x00\x07nonces"+letters(n)), arrivingAt(b, "\x40"+strangeId+letters(n))
			if len(mine.s) <= impl.MaxPayload {
				wantOwned(t, mine, "b1")
				wantPicked(t, strange, "aaddr")
			} else {
				wantNoRoute(t, mine, "a byte too many")
				wantNoRoute(t, strange, "a byte too many")
			}
		}
		first := longPacket(impl.FormHandshake, 1, strangeId, "me", "", letters(1200))
		wantPicked(t, arrivingAt(b, first+letters(impl.MaxPayload-len(first))), "d"+strangeId)
		wantNoRoute(t, arrivingAt(b, first+letters(impl.MaxPayload-len(first)+1)), "a byte too many")
	}
}

func TestKeysOfRoutes(t *testing.T) {
	for _, address := range []string{"a", "addr", "\x00", "d", letters(17), letters(impl.MaxAddress)} {
		for _, dcid := range []string{"", "d", "a", "\x00", strangeId, letters(19), letters(impl.MaxId)} {
			wantKeyOf(t, address, dcid, true, "d"+dcid)
			wantKeyOf(t, address, dcid, false, "a"+address)
		}
		for _, n := range []int{impl.MaxId + 1, 22, 100, 5000} {
			wantNoKeyOf(t, address, letters(n))
		}
	}
	for _, n := range []int{0, impl.MaxAddress + 1, 20, 99, 100, 5000} {
		for _, dcid := range []string{"", "d", strangeId, letters(20), letters(21)} {
			wantNoKeyOf(t, letters(n), dcid)
		}
	}
}

func TestFirstPackets(t *testing.T) {
	initial, other := initialPacket("token", 30), longPacket(impl.FormInitial, 9, "", "", "", "p")
	zero, hand := longPacket(impl.FormZero, 2, "d", "s", "", "z"), longPacket(impl.FormHandshake, 1, letters(20), letters(20), "", letters(300))
	retry, versions := longPacket(impl.FormRetry, 1, "d", "s", "", "token and tag"), versionsElsewhere("d", "s", 1)
	short := "\x45\x00\x07noncespayload"
	for _, b := range bothBalancers() {
		for _, first := range []string{initial, other, zero, hand} {
			wantFirst(t, b, first, first)
			for _, next := range []string{initial, other, zero, hand, retry, versions, short} {
				wantFirst(t, b, first+next, first)
				wantFirst(t, b, first+hand+next, first)
			}
		}
		// These take all that stands behind them.
		for _, first := range []string{retry, short} {
			wantFirst(t, b, first, first)
			wantFirst(t, b, first+initial, first+initial)
		}
		wantFirst(t, b, versions, versions)
		wantFirst(t, b, "\x40\x00\x07nonces", "\x40\x00\x07nonces")
	}
}

func TestFirstPacketsThatAreNone(t *testing.T) {
	initial := initialPacket("", 30)
	for _, b := range bothBalancers() {
		wantNoFirst(t, b, "", "no bytes")
		for n := range len(initial) {
			wantNoFirst(t, b, initial[:n], "cut off")
		}
		for n := range 9 {
			wantNoFirst(t, b, ("\x40" + strangeId)[:n], "a short one cut off")
		}
		wantNoFirst(t, b, "\x80"+initial[1:], "the second highest bit is 0")
		wantNoFirst(t, b, "\x00"+strangeId, "the second highest bit is 0")
		wantNoFirst(t, b, longPacket(impl.FormZero, 1, strangeId, "me", "", ""), "no Payload")
		wantNoFirst(t, b, "\x00"+initial, "a byte ahead of it")
	}
}

// sizedPackets tell their own length, so that others may stand behind them; the last ones have lengths longer than needed.
func sizedPackets() []string {
	return []string{
		initialPacket("", 30),
		initialPacket("token", 1),
		longPacket(impl.FormInitial, 9, "", "", letters(200), "p"),
		longPacket(impl.FormZero, 2, "d", "s", "", "z"),
		longPacket(impl.FormHandshake, 1, letters(20), letters(20), "", letters(300)),
		"\xc3\x00\x00\x00\x01\x01d\x01s" + varint(2, 8) + "tt" + varint(3, 4) + "pay",
		"\xe0\x00\x00\x00\x01\x01d\x01s" + varint(3, 1) + "pay",
	}
}

// The first packet alone is asked to be readable; CutDatagram tells nothing of these.
func TestFirstPacketsAheadOfOthersThatAreNone(t *testing.T) {
	initial := initialPacket("", 30)
	for _, b := range bothBalancers() {
		for _, first := range sizedPackets() {
			left := impl.MaxPayload - len(first)
			for _, behind := range []string{"\x00", "\x00\x00\x00", "\x40", "\x40short", "\xc0", "no packet", initial[:len(initial)-1], "\x80" + initial[1:], initial + "\x00", strings.Repeat("\x00", left)} {
				wantFirst(t, b, first+behind, first)
				wantFirst(t, b, first+first+behind[:min(len(behind), left-len(first))], first)
				wantNoCut(t, first+behind, b.Short)
			}
			wantNoFirst(t, b, first+strings.Repeat("\x00", left+1), "a byte too many")
			wantNoFirst(t, b, first+strings.Repeat("\x00", 5000), "many too many")
		}
	}
}

func TestTheFirstPacketAheadOfANought(t *testing.T) {
	first := "\xc0\x00\x00\x00\x01\x04abcd\x02ef\x00@\x05hello"
	wantFirst(t, impl.Balancer{Short: 4, Version: 1}, first+"\x00", first)
	wantNoFirst(t, impl.Balancer{Short: 0, Version: 1}, first+"\x00", "no balancer")
}

// Those that go up to the end have what stands behind them for their own, and are none where that can't be theirs.
func TestFirstPacketsUpToTheEnd(t *testing.T) {
	retry, versions := longPacket(impl.FormRetry, 1, "d", "s", "", "t"), versionsElsewhere("d", "s", 1)
	short := "\x40" + strangeId
	for _, b := range bothBalancers() {
		for _, behind := range []string{"\x00", "\x40", "\xc0", "no packet", strings.Repeat("\x00", 1199)} {
			wantFirst(t, b, retry+behind, retry+behind)
			wantFirst(t, b, short+behind, short+behind)
		}
		wantNoFirst(t, b, retry+strings.Repeat("\x00", 1200), "a long Payload")
		wantNoFirst(t, b, short+strings.Repeat("\x00", 1201), "a long Payload")
		for n := range 4 {
			wantNoFirst(t, b, versions[:len(versions)-4+n], "the first version is cut off")
		}
		for n := 1; n < 4; n++ {
			wantNoFirst(t, b, versions+strings.Repeat("\x00", n), "no whole version")
		}
		wantFirst(t, b, versions+strings.Repeat("\x00", 4*19), versions+strings.Repeat("\x00", 4*19))
		wantNoFirst(t, b, versions+strings.Repeat("\x00", 4*20), "too many versions")
	}
}

func TestFirstPacketsOfTheEdges(t *testing.T) {
	b := plainBalancer()
	for short := 1; short <= impl.MaxId; short++ {
		b.Short = short
		wantNoFirst(t, b, "\x40"+letters(short-1), "a short id cut off")
		wantFirst(t, b, "\x40"+letters(short), "\x40"+letters(short))
		wantFirst(t, b, "\x40"+letters(short+1200), "\x40"+letters(short+1200))
		wantNoFirst(t, b, "\x40"+letters(short+1201), "a long Payload")
	}
	b.Short = 8
	first := longPacket(impl.FormHandshake, 1, strangeId, "me", "", letters(1200))
	left := impl.MaxPayload - len(first)
	wantFirst(t, b, first+"\x40"+letters(left-1), first)
	wantFirst(t, b, first+letters(left), first)
	wantNoFirst(t, b, first+"\x40"+letters(left), "a byte too many")
	wantNoFirst(t, b, strings.Repeat(initialPacket("", 30), 50), "many too many")
}

func TestDrainedBackends(t *testing.T) {
	for _, b := range bothBalancers() {
		wantDrain(t, b, "b2", "b3", "b4", "b5")
		wantDrain(t, b, "b3", "b2", "b4", "b5")
		wantDrain(t, b, "b5", "b2", "b3", "b4")
		for _, backend := range slices.Concat([]string{"b1", "b", "b22", "b6", "B2", "nobody"}, noBackends()) {
			wantNoDrain(t, b, backend, "one that is not in Live")
		}
		once := wantDrain(t, b, "b3", "b2", "b4", "b5")
		wantNoDrain(t, once, "b3", "one that is drained already")
		for _, backend := range []string{"b2", "b5", "b4"} {
			once, _ = impl.DrainBackend(once, backend)
		}
		want := b
		want.Live = nil
		if !sameBalancer(once, want) {
			t.Errorf("%+v", once)
		}
		wantNoDrain(t, once, "b2", "nobody is live")
		b.Live = []string{"b7"}
		wantDrain(t, b, "b7")
		b.Live = sortedLive()
		for i, backend := range sortedLive() {
			wantDrain(t, b, backend, slices.Delete(sortedLive(), i, i+1)...)
		}
	}
}

// A drained backend keeps its ids, and nothing new comes to it.
func TestDrainedBackendsKeepTheirIds(t *testing.T) {
	for _, b := range bothBalancers() {
		less := wantDrain(t, b, "b2", "b3", "b4", "b5")
		for _, at := range []impl.Balancer{b, less} {
			wantOwned(t, arrivingAt(at, "\x40\x00\x08nonces"), "b2")
			wantOwned(t, arrivingAt(at, longPacket(impl.FormInitial, 2, "\x00\x08nonces", "me", "", "p")), "b2")
		}
		wantRoute(t, arrivingAt(b, "\x40"+strangeId), impl.Route{Kind: impl.RoutePick, Backend: "b2"})
		wantPicked(t, arrivingAt(less, "\x40"+strangeId), "aaddr")
		table, id, code := impl.IssueId(less.Table, 0, "b2", 0)
		if code != impl.TableOk {
			t.Fatal(code)
		}
		less.Table = table
		wantOwned(t, arrivingAt(less, "\x40"+id), "b2")
	}
}
