package tests

import (
	"slices"
	"testing"

	"loop.example/g00206/impl"
)

// arriving is what RouteDatagram is given.
type arriving struct {
	b          impl.Balancer
	address, s string
	now        int
	nonce      string
}

// strangeId is of a Slot that no table has.
const strangeId = "\xe0unknown"

const firstKey, secondKey, thirdKey = "0123456789abcdef", "fedcba9876543210", "another 16 bytes"

// plainBalancer has ids of eight bytes: of b1, which is not live, and of b2, which is.
func plainBalancer() impl.Balancer {
	config := impl.IdConfig{Server: 1, Nonce: 6}
	return impl.Balancer{
		Table:   tableOf(impl.Entry{Config: config, Servers: serversOf("07", "b1", "08", "b2"), Next: 9}),
		Live:    []string{"b2", "b3", "b4", "b5"},
		Short:   8,
		Life:    10,
		Version: 1,
	}
}

// retryBalancer is the plain one, that asks to come again.
func retryBalancer() impl.Balancer {
	b := plainBalancer()
	b.Retry, b.Keys = true, []string{firstKey, secondKey}
	return b
}

// bothBalancers differ in Retry alone.
func bothBalancers() []impl.Balancer {
	return []impl.Balancer{plainBalancer(), retryBalancer()}
}

func arrivingAt(b impl.Balancer, s string) arriving {
	return arriving{b, "addr", s, 7, "nonce of 12."}
}

func counted(text string) string {
	return string([]byte{byte(len(text))}) + text
}

// longPacket is a packet of a form that has a Version, written by hand.
func longPacket(form, version int, dcid, scid, token, payload string) string {
	s := string([]byte{byte(192 + 16*form)}) + numberElsewhere(version, 4) + counted(dcid) + counted(scid)
	if form == impl.FormInitial && len(token) < 64 {
		s += varint(len(token), 1) + token
	} else if form == impl.FormInitial {
		s += varint(len(token), 2) + token
	}
	if form != impl.FormRetry {
		s += varint(len(payload), 2)
	}
	return s + payload
}

func initialPacket(token string, payload int) string {
	return longPacket(impl.FormInitial, 1, strangeId, "me", token, letters(payload))
}

func versionsElsewhere(dcid, scid string, version int) string {
	return "\xc0\x00\x00\x00\x00" + counted(dcid) + counted(scid) + numberElsewhere(version, 4)
}

// comeAgainElsewhere is the Retry of an Initial, by Go's own library.
func comeAgainElsewhere(t *testing.T, a arriving, version int, dcid, scid string) string {
	t.Helper()
	token := tokenElsewhere(t, minting{a.b.Keys[0], a.nonce, a.address, impl.Minted{Dcid: dcid, Time: a.now}})
	packet := retryElsewhere(version, scid, libraryHash(token)[:8], token)
	return packet + tagElsewhere(t, dcid, packet)
}

func wantRoute(t *testing.T, a arriving, want impl.Route) {
	t.Helper()
	if r, ok := impl.RouteDatagram(a.b, a.address, a.s, a.now, a.nonce); r != want || !ok {
		t.Errorf("%+v: %q from %q at %d: %+v %v, not %+v", a.b, a.s, a.address, a.now, r, ok, want)
	}
}

func wantNoRoute(t *testing.T, a arriving, why string) {
	t.Helper()
	if r, ok := impl.RouteDatagram(a.b, a.address, a.s, a.now, a.nonce); r != (impl.Route{}) || ok {
		t.Errorf("%s: %+v: %d bytes from %q at %d: %+v %v", why, a.b, len(a.s), a.address, a.now, r, ok)
	}
}

func wantDropped(t *testing.T, a arriving) {
	t.Helper()
	wantRoute(t, a, impl.Route{Kind: impl.RouteDrop})
}

func wantOwned(t *testing.T, a arriving, backend string) {
	t.Helper()
	wantRoute(t, a, impl.Route{Kind: impl.RouteOwner, Backend: backend})
}

func wantPicked(t *testing.T, a arriving, key string) {
	t.Helper()
	wantRoute(t, a, impl.Route{Kind: impl.RoutePick, Backend: rankElsewhere(a.b.Live, key)[0]})
}

func wantVersions(t *testing.T, a arriving, answer string) {
	t.Helper()
	wantRoute(t, a, impl.Route{Kind: impl.RouteVersions, Answer: answer})
}

func wantComeAgain(t *testing.T, a arriving, answer string) {
	t.Helper()
	wantRoute(t, a, impl.Route{Kind: impl.RouteRetry, Answer: answer})
}

func TestKindsOfRoutes(t *testing.T) {
	for i, kind := range []int{impl.RouteOwner, impl.RoutePick, impl.RouteDrop, impl.RouteRetry, impl.RouteVersions} {
		if kind != i+1 {
			t.Error(i, kind)
		}
	}
}

// Step 1: where the Dcid is not told all else does not matter.
func TestDatagramsWithoutADcid(t *testing.T) {
	id := "\x00\x07nonces"
	for _, b := range bothBalancers() {
		for _, live := range [][]string{b.Live, {"b1"}, nil} {
			b.Live = live
			for n := range 9 {
				wantDropped(t, arrivingAt(b, ("\x40" + id)[:n]))
				wantDropped(t, arrivingAt(b, ("\x00" + id)[:n]))
			}
			for _, form := range []int{impl.FormInitial, impl.FormZero, impl.FormHandshake, impl.FormRetry} {
				for _, version := range []int{0, 1, 2} {
					s := longPacket(form, version, id, "me", "", letters(100))
					for n := range 6 + len(id) {
						wantDropped(t, arrivingAt(b, s[:n]))
					}
					wantDropped(t, arrivingAt(b, longPacket(form, version, id+letters(13), "me", "", letters(100))))
					wantDropped(t, arrivingAt(b, longPacket(form, version, id+letters(247), "me", "", letters(100))))
				}
			}
		}
	}
}

// Of a short packet as many bytes are its Dcid as Short tells.
func TestShortIdsOfEachLength(t *testing.T) {
	for short := 1; short <= impl.MaxId; short++ {
		b := plainBalancer()
		b.Short = short
		s := "\x40\x00\x07nonces" + letters(20)
		for n := range len(s) {
			switch a := arrivingAt(b, s[:n]); {
			case n <= short:
				wantDropped(t, a)
			case short < 8:
				wantPicked(t, a, "aaddr")
			default:
				wantOwned(t, a, "b1")
			}
		}
	}
}

// Step 2: an id that the table issued counts ahead of all that follows, whoever is live.
func TestIdsAreTheirServers(t *testing.T) {
	for _, b := range bothBalancers() {
		for _, live := range [][]string{{"b1"}, {"b2"}, {"b1", "b2"}, {"b3"}, nil} {
			b.Live = live
			for server, backend := range map[string]string{"\x07": "b1", "\x08": "b2"} {
				id := "\x1f" + server + "nonces"
				for _, first := range []string{"\x40", "\x7f", "\x00", "\x3f"} {
					wantOwned(t, arrivingAt(b, first+id), backend)
					wantOwned(t, arrivingAt(b, first+id+letters(1491)), backend)
				}
				for _, form := range []int{impl.FormInitial, impl.FormZero, impl.FormHandshake, impl.FormRetry} {
					for _, version := range []int{0, 1, 2, mostVersion} {
						for _, token := range []string{"", "wrong", letters(37)} {
							wantOwned(t, arrivingAt(b, longPacket(form, version, id, "me", token, letters(100))), backend)
							wantOwned(t, arrivingAt(b, longPacket(form, version, id+letters(12), "me", token, letters(9))), backend)
						}
					}
				}
				wantOwned(t, arrivingAt(b, versionsElsewhere(id, "me", 1)), backend)
			}
		}
	}
}

// To its owner a packet also goes where ReadHeader would not read it: it is read no further than its Dcid.
func TestOwnedPacketsThatAreNotRead(t *testing.T) {
	id := "\x00\x08nonces"
	for _, b := range bothBalancers() {
		s := longPacket(impl.FormInitial, 1, id, "me", "", letters(100))
		for n := 6 + len(id); n <= len(s); n++ {
			wantOwned(t, arrivingAt(b, s[:n]), "b2")
			wantOwned(t, arrivingAt(b, "\x80"+s[1:n]), "b2")
		}
		wantOwned(t, arrivingAt(b, s[:6+len(id)]+"\xff"), "b2")
		wantOwned(t, arrivingAt(b, s+"\x00\x00\x00"), "b2")
	}
}

// The first packet alone is looked at.
func TestOwnersOfSeveralPackets(t *testing.T) {
	mine := longPacket(impl.FormInitial, 1, "\x00\x07nonces", "me", "", letters(30))
	yours := longPacket(impl.FormHandshake, 1, "\x00\x08nonces", "me", "", letters(30))
	strange := longPacket(impl.FormHandshake, 1, strangeId, "me", "", letters(30))
	short := "\x40\x00\x08noncesrest"
	for _, b := range bothBalancers() {
		wantOwned(t, arrivingAt(b, mine+yours), "b1")
		wantOwned(t, arrivingAt(b, yours+mine), "b2")
		wantOwned(t, arrivingAt(b, mine+short), "b1")
		wantOwned(t, arrivingAt(b, mine+strange+short), "b1")
		wantPicked(t, arrivingAt(b, strange+mine), "d"+strangeId)
		wantPicked(t, arrivingAt(b, strange+yours+short), "d"+strangeId)
	}
}

// Ids that are nobody's: of another Slot, too short, of no server, empty.
func TestIdsOfNobody(t *testing.T) {
	for _, b := range bothBalancers() {
		for _, id := range []string{"", "\x00", "\x00\x07nonce", "\x00\x09nonces", "\x20\x07nonces", "\x40\x07nonces", "\xe0\x07nonces", strangeId, letters(20)} {
			for _, form := range []int{impl.FormZero, impl.FormHandshake, impl.FormRetry} {
				wantPicked(t, arrivingAt(b, longPacket(form, 1, id, "me", "", letters(30))), "d"+id)
			}
		}
		for _, id := range []string{"\x00\x09nonces", "\x20\x07nonces", "\x40\x07nonces", strangeId} {
			wantPicked(t, arrivingAt(b, "\x40"+id+"\x07"), "aaddr")
		}
	}
}

// Step 3: a long packet that is nobody's must be read.
func TestLongPacketsThatAreNotRead(t *testing.T) {
	for _, b := range bothBalancers() {
		for _, form := range []int{impl.FormInitial, impl.FormZero, impl.FormHandshake} {
			for _, version := range []int{1, 2} {
				s := longPacket(form, version, strangeId, "me", "", letters(100))
				for n := range len(s) {
					wantDropped(t, arrivingAt(b, s[:n]))
				}
				wantDropped(t, arrivingAt(b, string([]byte{s[0] &^ 64})+s[1:]))
				wantDropped(t, arrivingAt(b, longPacket(form, version, strangeId, "me", "", "")))
				wantDropped(t, arrivingAt(b, longPacket(form, version, strangeId, "me", "", letters(1201))))
				wantDropped(t, arrivingAt(b, longPacket(form, version, strangeId, letters(21), "", letters(100))))
			}
		}
		for _, version := range []int{1, 2} {
			wantDropped(t, arrivingAt(b, longPacket(impl.FormInitial, version, strangeId, "me", letters(201), letters(100))))
			wantDropped(t, arrivingAt(b, longPacket(impl.FormRetry, version, strangeId, "me", "", "")))
			wantDropped(t, arrivingAt(b, longPacket(impl.FormRetry, version, strangeId, "me", "", letters(1201))))
		}
	}
}

// Behind the first packet may stand what can't be read.
func TestBytesBehindTheFirstPacket(t *testing.T) {
	for _, behind := range []string{"\x00", "\x00\x00\x00", "\xff", "\x40", "\xc0\x00", letters(200)} {
		b := plainBalancer()
		wantPicked(t, arrivingAt(b, initialPacket("", 20)+behind), "d"+strangeId)
		wantVersions(t, arrivingAt(b, longPacket(impl.FormInitial, 2, strangeId, "me", "", "p")+behind), versionsElsewhere("me", strangeId, 1))
		a := arrivingAt(retryBalancer(), initialPacket("", 100)+behind)
		wantComeAgain(t, a, comeAgainElsewhere(t, a, 1, strangeId, "me"))
	}
}

// An Initial of another Version is told which one there is, with Retry and without, whoever is live.
func TestInitialsOfOtherVersions(t *testing.T) {
	for _, b := range bothBalancers() {
		for _, live := range [][]string{b.Live, nil} {
			b.Live = live
			for _, own := range []int{1, 2, 0x6b3343cf, mostVersion} {
				b.Version = own
				for _, version := range []int{1, 2, 0x6b3343cf, mostVersion - 1, mostVersion} {
					if version == own {
						continue
					}
					for _, token := range []string{"", "wrong", letters(200)} {
						a := arrivingAt(b, longPacket(impl.FormInitial, version, strangeId, "me", token, letters(80)))
						wantVersions(t, a, versionsElsewhere("me", strangeId, own))
						a.s += longPacket(impl.FormInitial, own, strangeId, "me", "", letters(80))
						wantVersions(t, a, versionsElsewhere("me", strangeId, own))
					}
					for _, id := range []string{"", letters(20)} {
						a := arrivingAt(b, longPacket(impl.FormInitial, version, "\xe0", id, "", "p"))
						wantVersions(t, a, versionsElsewhere(id, "\xe0", own))
						a = arrivingAt(b, longPacket(impl.FormInitial, version, id, "s", "", letters(1200)))
						wantVersions(t, a, versionsElsewhere("s", id, own))
					}
				}
			}
		}
	}
}

// It is Retry's answer alone that is held against what came.
func TestVersionsOfAShortInitial(t *testing.T) {
	for _, b := range bothBalancers() {
		a := arrivingAt(b, "\xc0\x00\x00\x00\x02\x00\x00\x00\x01p")
		wantVersions(t, a, unhex("c000000000 00 00 00000001"))
		if r, _ := impl.RouteDatagram(a.b, a.address, a.s, a.now, a.nonce); len(r.Answer) != len(a.s)+1 {
			t.Error(len(r.Answer), len(a.s))
		}
	}
}

func TestVersionsToldElsewhere(t *testing.T) {
	b := plainBalancer()
	a := arrivingAt(b, unhex("cf 0000000a 03e1e2e3 026d65 02746f 4003706179"))
	wantVersions(t, a, unhex("c0 00000000 026d65 03e1e2e3 00000001"))
	a.b.Version = 0xff00001d
	wantVersions(t, a, unhex("c0 00000000 026d65 03e1e2e3 ff00001d"))
}

// Other forms of another Version go nowhere, and those of the own one are picked for, with Retry and without.
func TestOtherFormsOfVersions(t *testing.T) {
	for _, b := range bothBalancers() {
		for _, own := range []int{1, 2, mostVersion} {
			b.Version = own
			for _, form := range []int{impl.FormZero, impl.FormHandshake, impl.FormRetry} {
				for _, version := range []int{1, 2, 3, mostVersion - 1, mostVersion} {
					a := arrivingAt(b, longPacket(form, version, strangeId, "me", "", letters(90)))
					if version == own {
						wantPicked(t, a, "d"+strangeId)
					} else {
						wantDropped(t, a)
					}
				}
			}
			wantDropped(t, arrivingAt(b, versionsElsewhere(strangeId, "me", own)))
			wantDropped(t, arrivingAt(b, versionsElsewhere(strangeId, "me", own)+numberElsewhere(7, 4)))
			wantDropped(t, arrivingAt(b, versionsElsewhere("", "", 0)))
		}
	}
}

// Step 4: nobody is live.
func TestNobodyIsLive(t *testing.T) {
	for _, b := range bothBalancers() {
		for _, live := range [][]string{nil, {}} {
			b.Live = live
			wantDropped(t, arrivingAt(b, "\x40"+strangeId))
			wantDropped(t, arrivingAt(b, "\x40"+strangeId+letters(100)))
			for _, form := range []int{impl.FormZero, impl.FormHandshake, impl.FormRetry} {
				wantDropped(t, arrivingAt(b, longPacket(form, 1, strangeId, "me", "", letters(90))))
			}
		}
	}
	b := plainBalancer()
	b.Live = nil
	wantDropped(t, arrivingAt(b, initialPacket("", 90)))
	b = retryBalancer()
	b.Live = nil
	token := tokenElsewhere(t, minting{firstKey, "nonce of 12.", "addr", impl.Minted{Time: 7}})
	wantDropped(t, arrivingAt(b, initialPacket(token, 90)))
	// Who has shown nothing yet is asked ahead of that.
	a := arrivingAt(b, initialPacket("", 90))
	wantComeAgain(t, a, comeAgainElsewhere(t, a, 1, strangeId, "me"))
}

// The backends were reckoned by Python's hashlib.
func TestPicksOfRoutesToldElsewhere(t *testing.T) {
	b := plainBalancer()
	for id, want := range map[string]string{strangeId: "b3", "": "b5", "\xe0" + letters(19): "b3", "dddd": "b4"} {
		for _, form := range []int{impl.FormInitial, impl.FormZero, impl.FormHandshake, impl.FormRetry} {
			for _, address := range []string{"addr", "other", "\x00", letters(18)} {
				a := arrivingAt(b, longPacket(form, 1, id, "me", "", "p"))
				a.address = address
				wantRoute(t, a, impl.Route{Kind: impl.RoutePick, Backend: want})
			}
		}
	}
	for address, want := range map[string]string{"addr": "b2", letters(18): "b5", "other": "b2", "aaaa": "b5"} {
		for _, id := range []string{strangeId, "\xe0anothe", "\x00\x09nonce"} {
			a := arrivingAt(b, "\x40"+id+"payload")
			a.address = address
			wantRoute(t, a, impl.Route{Kind: impl.RoutePick, Backend: want})
		}
	}
}

// Without Retry no token is looked at.
func TestTokensWithoutRetry(t *testing.T) {
	for _, token := range []string{"", "wrong", letters(37), letters(200), noughts} {
		wantPicked(t, arrivingAt(plainBalancer(), initialPacket(token, 5)), "d"+strangeId)
	}
}

func TestPicksOfEachLiveSet(t *testing.T) {
	for _, b := range bothBalancers() {
		for n := 1; n <= impl.MaxLive; n++ {
			b.Live = slices.Clone(sortedLive()[:n])
			wantPicked(t, arrivingAt(b, longPacket(impl.FormHandshake, 1, strangeId, "me", "", "p")), "d"+strangeId)
			wantPicked(t, arrivingAt(b, "\x40"+strangeId), "aaddr")
		}
	}
}
