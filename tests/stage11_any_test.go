package tests

import (
	"slices"
	"testing"

	"loop.example/g00206/impl"
)

func balancerTold(b impl.Balancer) bool {
	keys := len(b.Keys) == 0
	if b.Retry {
		keys = (len(b.Keys) == 1 || len(b.Keys) == 2) && !slices.ContainsFunc(b.Keys, func(k string) bool { return len(k) != 16 })
	}
	return tableTold(b.Table) && liveTold(b.Live) && b.Short >= 1 && b.Short <= 20 && keys &&
		b.Life >= 0 && b.Life <= 1000000 && b.Version >= 1 && b.Version <= mostVersion
}

// anyGoodTable passes over those that are not good.
func (s *steps) anyGoodTable() impl.Table {
	for {
		if a := s.someTable(); tableTold(a) {
			return a
		}
	}
}

// balancer is good.
func (s *steps) balancer() impl.Balancer {
	b := impl.Balancer{
		Table:   s.anyGoodTable(),
		Live:    s.liveSet(s.below(13)),
		Short:   1 + s.below(20),
		Retry:   s.below(2) == 0,
		Life:    s.below(1500),
		Version: 1 + s.below(3),
	}
	if b.Retry {
		b.Keys = []string{s.text(16), s.text(16)}[:1+s.below(2)]
	}
	return b
}

// someBalancer is mostly good.
func (s *steps) someBalancer() impl.Balancer {
	b := s.balancer()
	switch s.below(16) {
	case 0:
		b.Table = s.someTable()
	case 1:
		b.Live = s.someLive()
	case 2:
		b.Short = []int{-1, 0, 21, minInt, maxInt}[s.below(5)]
	case 3:
		b.Retry = !b.Retry
	case 4:
		b.Keys = s.someKeysFor(s.text(16))
	case 5:
		b.Life = []int{-1, 0, impl.MaxLife, impl.MaxLife + 1, minInt, maxInt}[s.below(6)]
	case 6:
		b.Version = []int{-1, 0, 1, mostVersion, mostVersion + 1, minInt, maxInt}[s.below(7)]
	}
	return b
}

// anId is now and then one that the table might have issued.
func (s *steps) anId(t *testing.T, a impl.Table) string {
	if len(a.Entries) == 0 || s.below(3) > 0 {
		return s.text(s.below(21))
	}
	e := a.Entries[s.below(len(a.Entries))]
	if len(e.Servers) == 0 || !configTold(e.Config) {
		return s.text(s.below(21))
	}
	server := e.Servers[s.below(len(e.Servers))].Id
	if len(server) != e.Config.Server {
		return s.text(s.below(21))
	}
	return idElsewhere(t, e.Config, server, s.text(e.Config.Nonce), s.below(32))
}

// someArriving is mostly as said; the token that it brings, if one, is often the one that was minted so.
func (s *steps) someArriving(t *testing.T, b impl.Balancer) (arriving, minting) {
	g := s.minting()
	a := arriving{b, g.address, "", g.m.Time, s.text(12)}
	if n := len(b.Keys); n > 0 && s.below(6) > 0 && len(b.Keys[n-1]) == 16 {
		g.key = b.Keys[n-1]
	}
	if b.Life > 0 && s.below(3) == 0 {
		a.now += s.below(min(2*b.Life, 2000000))
	}
	token := ""
	switch s.below(8) {
	case 0, 1, 2:
		token = tokenElsewhere(t, g)
	case 3:
		token = s.text(s.below(220))
	}
	id := s.anId(t, b.Table)
	form, version := s.below(8)%5, b.Version
	if form > impl.FormRetry {
		form = impl.FormInitial
	}
	if s.below(3) == 0 {
		version = 1 + s.below(3)
	}
	a.s = longPacket(form, version, id, s.text(s.below(21)), token, s.text(s.below(200)))
	switch s.below(24) {
	case 0, 1, 2, 3:
		a.s = string([]byte{byte(s.below(128))}) + id + s.text(s.below(40))
	case 4:
		a.s = versionsElsewhere(id, s.text(s.below(21)), s.below(3))
	case 5:
		a.s = a.s[:s.below(len(a.s)+1)]
	case 6:
		a.s = turned(a.s, s.below(8*len(a.s)))
	case 7:
		a.s += s.text(s.below(1500))
	case 8:
		a.s = s.text(s.below(40))
	case 9:
		a.address = s.text(s.below(23))
	case 10:
		a.now = []int{-1, 0, impl.MaxTime, impl.MaxTime + 1, minInt, maxInt}[s.below(6)]
	case 11:
		a.nonce = s.text(11 + s.below(3))
	}
	return a, g
}

func ownerTold(a impl.Table, id string) (string, bool) {
	if id == "" {
		return "", false
	}
	e := heldOf(a).at(int(id[0] >> 5))
	if e == nil {
		return "", false
	}
	server, _, ok := impl.DecodeId(e.config, id)
	backend, there := e.owners[server]
	return backend, ok && there
}

// routeTold is the answer by the chapter's steps; of headers it takes what chapter 2 reads, all else is made elsewhere.
func routeTold(t *testing.T, a arriving, g minting) impl.Route {
	t.Helper()
	drop := impl.Route{Kind: impl.RouteDrop}
	id, long, told := impl.DestOf(a.s, a.b.Short)
	if !told {
		return drop
	}
	if backend, owned := ownerTold(a.b.Table, id); owned {
		return impl.Route{Kind: impl.RouteOwner, Backend: backend}
	}
	key := "a" + a.address
	if long {
		key = "d" + id
		h, _, code := impl.ReadHeader(a.s, a.b.Short)
		initial := h.Form == impl.FormInitial
		if code != impl.ReadOk || !initial && h.Version != a.b.Version {
			return drop
		}
		if initial && h.Version != a.b.Version {
			return impl.Route{Kind: impl.RouteVersions, Answer: versionsElsewhere(h.Scid, h.Dcid, a.b.Version)}
		}
		if initial && a.b.Retry {
			_, code := tokenTold(t, checking{a.b.Keys, a.address, h.Token, a.now, a.b.Life}, g)
			answer := comeAgainElsewhere(t, a, h.Version, h.Dcid, h.Scid)
			if h.Token == "" && len(answer) <= len(a.s) {
				return impl.Route{Kind: impl.RouteRetry, Answer: answer}
			}
			if code != impl.TokenOk {
				return drop
			}
		}
	}
	if len(a.b.Live) == 0 {
		return drop
	}
	return impl.Route{Kind: impl.RoutePick, Backend: rankElsewhere(a.b.Live, key)[0]}
}

func arrivingTold(a arriving) bool {
	return balancerTold(a.b) && len(a.address) >= 1 && len(a.address) <= 18 && len(a.s) <= 1500 &&
		a.now >= 0 && a.now <= 1000000000 && len(a.nonce) == 12
}

func TestRoutesAtAnyArguments(t *testing.T) {
	var s steps
	var counts [6]int
	for range 15000 {
		a, g := s.someArriving(t, s.someBalancer())
		if good := balancerTold(a.b); impl.GoodBalancer(a.b) != good {
			t.Fatalf("%+v: not %v", a.b, good)
		}
		if !arrivingTold(a) {
			counts[0]++
			wantNoRoute(t, a, "any arguments")
			continue
		}
		want := routeTold(t, a, g)
		counts[want.Kind]++
		wantRoute(t, a, want)
		if t.Failed() {
			t.FailNow()
		}
	}
	for kind, n := range counts {
		if n < 150 {
			t.Errorf("kind %d came %d times", kind, n)
		}
	}
}

func TestFirstPacketsAtAnyArguments(t *testing.T) {
	var s steps
	first, alone := 0, 0
	for range 6000 {
		a, _ := s.someArriving(t, s.someBalancer())
		_, size, code := impl.ReadHeader(a.s, a.b.Short)
		if !balancerTold(a.b) || len(a.s) > 1500 || code != impl.ReadOk {
			wantNoFirst(t, a.b, a.s, "any arguments")
			continue
		}
		first++
		wantFirst(t, a.b, a.s, a.s[:size])
		l, ok := impl.CutDatagram(a.s, a.b.Short)
		if !ok {
			alone++
		} else if l[0] != a.s[:size] {
			t.Errorf("%x: %x first", a.s, l[0])
		}
	}
	if first < 750 || first > 5250 || alone < 50 {
		t.Error(first, alone)
	}
}

// A packet that tells its own length stays the first one, whatever comes behind it.
func TestFirstPacketsAheadOfAnyBytes(t *testing.T) {
	var s steps
	for range 1500 {
		b := s.balancer()
		p := longPacket(s.below(3), 1+s.below(3), s.text(s.below(21)), s.text(s.below(21)), s.text(s.below(201)), s.text(1+s.below(900)))
		wantFirst(t, b, p, p)
		wantFirst(t, b, p+s.text(1+s.below(1500-len(p))), p)
		wantNoFirst(t, b, p+s.text(1501-len(p)+s.below(99)), "too many bytes")
		wantNoFirst(t, b, p[:s.below(len(p))], "cut off")
	}
}

func TestDrainAtAnyArguments(t *testing.T) {
	var s steps
	drained := 0
	for range 3000 {
		b := s.someBalancer()
		backend := s.someBackend()
		if len(b.Live) > 0 && s.below(3) > 0 {
			backend = b.Live[s.below(len(b.Live))]
		}
		at := slices.Index(b.Live, backend)
		if !balancerTold(b) || at < 0 {
			wantNoDrain(t, b, backend, "any arguments")
			continue
		}
		drained++
		wantDrain(t, b, backend, slices.Delete(slices.Clone(b.Live), at, at+1)...)
	}
	if drained < 500 || drained > 2500 {
		t.Error(drained)
	}
}

func TestKeysOfRoutesAtAnyArguments(t *testing.T) {
	var s steps
	for range 2000 {
		address, dcid := s.text(s.below(23)), s.text(s.below(25))
		if address == "" || len(address) > 18 || len(dcid) > 20 {
			wantNoKeyOf(t, address, dcid)
			continue
		}
		wantKeyOf(t, address, dcid, true, "d"+dcid)
		wantKeyOf(t, address, dcid, false, "a"+address)
	}
}

// Promise 11: what the table issued is its server's, by short packets and by long ones, also when that is drained.
func TestIssuedIdsAreRouted(t *testing.T) {
	var s steps
	issued := 0
	for range 300 {
		b := s.balancer()
		b.Short = impl.MaxId
		if len(b.Table.Entries) == 0 {
			continue
		}
		e := &b.Table.Entries[s.below(len(b.Table.Entries))]
		if len(e.Servers) == 0 {
			continue
		}
		e.Next = s.below(1000000)
		x := e.Servers[s.below(len(e.Servers))]
		table, id, code := impl.IssueId(b.Table, e.Config.Slot, x.Backend, s.below(32))
		if code != impl.TableOk {
			t.Fatal(code)
		}
		issued++
		b.Table = table
		more := b
		if l, ok := impl.AddBackend(b.Live, x.Backend); ok {
			more.Live = l
		}
		for _, at := range []impl.Balancer{b, more} {
			if less, ok := impl.DrainBackend(at, x.Backend); ok {
				at = less
			}
			for short := len(id); short <= impl.MaxId; short++ {
				at.Short = short
				wantOwned(t, arrivingAt(at, "\x40"+id+s.text(20)), x.Backend)
			}
			wantOwned(t, arrivingAt(at, longPacket(s.below(4), 1+s.below(3), id, s.text(s.below(21)), s.text(s.below(60)), s.text(1+s.below(99)))), x.Backend)
		}
	}
	if issued < 100 {
		t.Error(issued)
	}
}

// Promise 11: balancers with one table and one live set route alike, without Retry; times, nonces and lives change nothing.
func TestBalancersRouteAlike(t *testing.T) {
	var s steps
	for range 1500 {
		one := s.balancer()
		one.Retry, one.Keys = false, nil
		a, g := s.someArriving(t, one)
		if !arrivingTold(a) {
			continue
		}
		other := a
		other.b.Table, other.b.Live = keptTable(one.Table), slices.Clone(one.Live)
		other.b.Life, other.now, other.nonce = s.below(impl.MaxLife+1), s.below(impl.MaxTime+1), s.text(12)
		want := routeTold(t, a, g)
		wantRoute(t, a, want)
		wantRoute(t, other, want)
		wantRoute(t, a, want)
	}
}

// Promise 11: a packet that asks to come again is no longer than what came, and who comes again with it is let in.
func TestWhoIsAskedComesAgain(t *testing.T) {
	var s steps
	asked := 0
	for range 400 {
		b := s.balancer()
		b.Retry, b.Keys = true, []string{s.text(16), s.text(16)}
		if len(b.Live) == 0 {
			b.Live = []string{"b1"}
		}
		a := arriving{b, s.text(1 + s.below(18)), "", s.below(impl.MaxTime - 2000), s.text(12)}
		scid, payload := s.text(s.below(21)), s.text(1+s.below(100))
		a.s = longPacket(impl.FormInitial, b.Version, "\xff"+s.text(s.below(20)), scid, "", payload)
		r, ok := impl.RouteDatagram(b, a.address, a.s, a.now, a.nonce)
		if !ok || r.Kind != impl.RouteRetry && r.Kind != impl.RouteDrop || len(r.Answer) > len(a.s) {
			t.Fatalf("%+v: %+v %v", a, r, ok)
		}
		if r.Kind == impl.RouteDrop {
			if len(payload) >= 58 {
				t.Fatalf("%+v is not asked", a)
			}
			continue
		}
		asked++
		h, _, _ := impl.ReadHeader(r.Answer, 1)
		again := a
		again.s = longPacket(impl.FormInitial, b.Version, h.Scid, scid, h.Payload[:len(h.Payload)-16], payload)
		again.nonce = s.text(12)
		again.now += s.below(b.Life + 1)
		// The first key becomes the second one meanwhile.
		again.b.Keys = []string{s.text(16), b.Keys[0]}
		if backend, owned := ownerTold(b.Table, h.Scid); owned {
			wantOwned(t, again, backend)
			continue
		}
		wantPicked(t, again, "d"+h.Scid)
		again.now = a.now + b.Life + 1
		wantDropped(t, again)
	}
	if asked < 100 {
		t.Error(asked)
	}
}
