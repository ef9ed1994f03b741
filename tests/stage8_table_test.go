package tests

import (
	"fmt"
	"slices"
	"strings"
	"testing"

	"loop.example/g00206/impl"
)

// sameTable holds empty and nil lists for the same.
func sameTable(a, b impl.Table) bool {
	return slices.EqualFunc(a.Entries, b.Entries, func(x, y impl.Entry) bool {
		return x.Config == y.Config && x.Next == y.Next && slices.Equal(x.Servers, y.Servers)
	})
}

// keptTable shares no list with a table, so that it shows what was written into one.
func keptTable(a impl.Table) impl.Table {
	b := impl.Table{Entries: slices.Clone(a.Entries)}
	for i := range b.Entries {
		b.Entries[i].Servers = slices.Clone(a.Entries[i].Servers)
	}
	return b
}

func tableOf(entries ...impl.Entry) impl.Table {
	return impl.Table{Entries: entries}
}

// serversOf reads pairs of an id in hex and a backend.
func serversOf(pairs ...string) []impl.Alloc {
	var l []impl.Alloc
	for i := 0; i < len(pairs); i += 2 {
		l = append(l, impl.Alloc{Id: unhex(pairs[i]), Backend: pairs[i+1]})
	}
	return l
}

// issuedNonce is the nonce of the id that was issued behind n others.
func issuedNonce(n, size int) string {
	return strings.Repeat("\x00", size-4) + numberElsewhere(n, 4)
}

// orders are all orders of the numbers below n.
func orders(n int) [][]int {
	if n == 0 {
		return [][]int{nil}
	}
	var l [][]int
	for _, o := range orders(n - 1) {
		for at := range n {
			l = append(l, slices.Insert(slices.Clone(o), at, n-1))
		}
	}
	return l
}

func wantTable(t *testing.T, what string, got impl.Table, code int, want impl.Table, wantCode int) {
	t.Helper()
	if code != wantCode || !sameTable(got, want) {
		t.Errorf("%s: %+v and %d, not %+v and %d", what, got, code, want, wantCode)
	}
}

func wantKept(t *testing.T, what string, a, kept impl.Table) {
	t.Helper()
	if !sameTable(a, kept) {
		t.Errorf("%s: the table that was given is %+v, not %+v any more", what, a, kept)
	}
}

func wantInstall(t *testing.T, a impl.Table, c impl.IdConfig, want impl.Table, wantCode int) impl.Table {
	t.Helper()
	kept := keptTable(a)
	got, code := impl.InstallConfig(a, c)
	what := fmt.Sprintf("InstallConfig of %+v", c)
	wantTable(t, what, got, code, want, wantCode)
	wantKept(t, what, a, kept)
	return got
}

func wantRemove(t *testing.T, a impl.Table, slot int, want impl.Table, wantCode int) impl.Table {
	t.Helper()
	kept := keptTable(a)
	got, code := impl.RemoveConfig(a, slot)
	what := fmt.Sprintf("RemoveConfig of %d", slot)
	wantTable(t, what, got, code, want, wantCode)
	wantKept(t, what, a, kept)
	return got
}

func wantAlloc(t *testing.T, a impl.Table, slot int, id, backend string, want impl.Table, wantCode int) impl.Table {
	t.Helper()
	kept := keptTable(a)
	got, code := impl.AllocServer(a, slot, id, backend)
	what := fmt.Sprintf("AllocServer of %d, %x, %q", slot, id, backend)
	wantTable(t, what, got, code, want, wantCode)
	wantKept(t, what, a, kept)
	return got
}

func wantIssue(t *testing.T, a impl.Table, slot int, backend string, spare int, want impl.Table, wantId string, wantCode int) impl.Table {
	t.Helper()
	kept := keptTable(a)
	got, id, code := impl.IssueId(a, slot, backend, spare)
	what := fmt.Sprintf("IssueId of %d, %q, %d", slot, backend, spare)
	wantTable(t, what, got, code, want, wantCode)
	wantKept(t, what, a, kept)
	if id != wantId {
		t.Errorf("%s: %x, not %x", what, id, wantId)
	}
	return got
}

func wantOwner(t *testing.T, a impl.Table, id, backend string, wantCode int) {
	t.Helper()
	kept := keptTable(a)
	if got, code := impl.OwnerOf(a, id); got != backend || code != wantCode {
		t.Errorf("OwnerOf of %x in %+v: %q and %d, not %q and %d", id, a, got, code, backend, wantCode)
	}
	wantKept(t, "OwnerOf", a, kept)
}

// wantNoTable holds all that a table goes into against one that is not good: that is told ahead of all else.
func wantNoTable(t *testing.T, a impl.Table, why string) {
	t.Helper()
	if impl.GoodTable(a) {
		t.Errorf("%s: %+v is not good", why, a)
	}
	none := impl.Table{}
	for slot := -1; slot <= impl.MaxSlots; slot++ {
		wantInstall(t, a, impl.IdConfig{Slot: slot, Server: 1, Nonce: 4}, none, impl.TableBad)
		wantRemove(t, a, slot, none, impl.TableBad)
		for _, backend := range []string{"b1", "b2", "", "B"} {
			wantAlloc(t, a, slot, "\x01", backend, none, impl.TableBad)
			wantIssue(t, a, slot, backend, 0, none, "", impl.TableBad)
			wantIssue(t, a, slot, backend, 32, none, "", impl.TableBad)
		}
		wantOwner(t, a, string([]byte{byte(slot << 5)})+"\x01\x00\x00\x00\x00", "", impl.TableBad)
	}
	wantOwner(t, a, "", "", impl.TableBad)
}

func wantGoodTable(t *testing.T, a impl.Table, why string) {
	t.Helper()
	kept := keptTable(a)
	if !impl.GoodTable(a) {
		t.Errorf("%s: %+v is good", why, a)
	}
	wantKept(t, "GoodTable", a, kept)
}

func TestLimitsOfTables(t *testing.T) {
	if impl.MaxSlots != 3 || impl.MaxServers != 12 || impl.TableOk != 0 || impl.TableBad != 1 || impl.TableSlot != 2 ||
		impl.TableTwice != 3 || impl.TableFull != 4 || impl.TableNone != 5 {
		t.Error("a constant is not as told")
	}
}

// A table gone through by hand: each step tells the whole table that is behind it.
func TestATableStepByStep(t *testing.T) {
	one := impl.IdConfig{Slot: 1, Server: 2, Nonce: 6, Told: true}
	zero := impl.IdConfig{Slot: 0, Server: 1, Nonce: 4}
	a := wantInstall(t, impl.Table{}, one, tableOf(impl.Entry{Config: one}), 0)
	a = wantInstall(t, a, zero, tableOf(impl.Entry{Config: zero}, impl.Entry{Config: one}), 0)
	a = wantInstall(t, a, zero, a, impl.TableTwice)

	a = wantAlloc(t, a, 0, "\x07", "b1", tableOf(
		impl.Entry{Config: zero, Servers: serversOf("07", "b1")}, impl.Entry{Config: one}), 0)
	a = wantAlloc(t, a, 0, "\x03", "b2", tableOf(
		impl.Entry{Config: zero, Servers: serversOf("03", "b2", "07", "b1")}, impl.Entry{Config: one}), 0)
	a = wantAlloc(t, a, 1, "\x0a\x0b", "b1", tableOf(
		impl.Entry{Config: zero, Servers: serversOf("03", "b2", "07", "b1")},
		impl.Entry{Config: one, Servers: serversOf("0a0b", "b1")}), 0)

	servers, others := serversOf("03", "b2", "07", "b1"), serversOf("0a0b", "b1")
	counted := func(first, second int) impl.Table {
		return tableOf(impl.Entry{Config: zero, Servers: servers, Next: first}, impl.Entry{Config: one, Servers: others, Next: second})
	}
	a = wantIssue(t, a, 0, "b1", 3, counted(1, 0), unhex("03 07 00000000"), 0)
	a = wantIssue(t, a, 0, "b2", 31, counted(2, 0), unhex("1f 03 00000001"), 0)
	a = wantIssue(t, a, 1, "b1", 31, counted(2, 1), unhex("28 0a0b 000000000000"), 0)
	a = wantIssue(t, a, 0, "b1", 3, counted(3, 1), unhex("03 07 00000002"), 0)
	a = wantIssue(t, a, 1, "b1", 0, counted(3, 2), unhex("28 0a0b 000000000001"), 0)
	a = wantIssue(t, a, 1, "b2", 0, counted(3, 2), "", impl.TableNone)
	a = wantIssue(t, a, 2, "b1", 0, counted(3, 2), "", impl.TableSlot)

	for id, backend := range map[string]string{"03 07 00000000": "b1", "1f 03 00000001": "b2", "28 0a0b 000000000000": "b1", "28 0a0b ffffffffffff": "b1"} {
		wantOwner(t, a, unhex(id), backend, 0)
	}
	wantOwner(t, a, unhex("03 08 00000000"), "", impl.TableNone)
	wantOwner(t, a, unhex("28 0b0a 000000000000"), "", impl.TableNone)
	wantOwner(t, a, unhex("43 07 00000000"), "", impl.TableSlot)

	a = wantRemove(t, a, 2, a, impl.TableSlot)
	a = wantRemove(t, a, 0, tableOf(impl.Entry{Config: one, Servers: others, Next: 2}), 0)
	wantOwner(t, a, unhex("03 07 00000000"), "", impl.TableSlot)
	wantOwner(t, a, unhex("28 0a0b 000000000000"), "b1", 0)
	wantRemove(t, a, 1, impl.Table{}, 0)
}

// What is installed again begins anew, whatever was there ahead of it.
func TestConfigsInstalledAgain(t *testing.T) {
	c := impl.IdConfig{Slot: 2, Server: 1, Nonce: 5}
	first := unhex("45 aa 0000000000")
	a := wantInstall(t, impl.Table{}, c, tableOf(impl.Entry{Config: c}), 0)
	a = wantAlloc(t, a, 2, "\xaa", "old", tableOf(impl.Entry{Config: c, Servers: serversOf("aa", "old")}), 0)
	a = wantIssue(t, a, 2, "old", 5, tableOf(impl.Entry{Config: c, Servers: serversOf("aa", "old"), Next: 1}), first, 0)
	a = wantRemove(t, a, 2, impl.Table{}, 0)
	wantOwner(t, a, first, "", impl.TableSlot)
	wantIssue(t, a, 2, "old", 5, a, "", impl.TableSlot)
	a = wantRemove(t, a, 2, impl.Table{}, impl.TableSlot)

	a = wantInstall(t, a, c, tableOf(impl.Entry{Config: c}), 0)
	wantOwner(t, a, first, "", impl.TableNone)
	wantIssue(t, a, 2, "old", 5, a, "", impl.TableNone)
	a = wantAlloc(t, a, 2, "\xaa", "new", tableOf(impl.Entry{Config: c, Servers: serversOf("aa", "new")}), 0)
	wantOwner(t, a, first, "new", 0)
	a = wantIssue(t, a, 2, "new", 5, tableOf(impl.Entry{Config: c, Servers: serversOf("aa", "new"), Next: 1}), first, 0)

	longer := impl.IdConfig{Slot: 2, Server: 2, Nonce: 5}
	a = wantRemove(t, a, 2, impl.Table{}, 0)
	a = wantInstall(t, a, longer, tableOf(impl.Entry{Config: longer}), 0)
	wantOwner(t, a, first, "", impl.TableBad)
}

func TestConfigsInEachOrder(t *testing.T) {
	configs := []impl.IdConfig{
		{Slot: 0, Server: 1, Nonce: 4},
		{Slot: 1, Server: 8, Nonce: 8, Key: letters(16), Told: true},
		{Slot: 2, Server: 3, Nonce: 4, Key: strings.Repeat("k", 16)},
	}
	for _, order := range orders(3) {
		var a, want impl.Table
		for _, slot := range order {
			want.Entries = append(want.Entries, impl.Entry{Config: configs[slot]})
			slices.SortFunc(want.Entries, func(x, y impl.Entry) int { return x.Config.Slot - y.Config.Slot })
			a = wantInstall(t, a, configs[slot], want, 0)
		}
		for _, c := range configs {
			other := impl.IdConfig{Slot: c.Slot, Server: 5, Nonce: 5}
			wantInstall(t, a, c, want, impl.TableTwice)
			wantInstall(t, a, other, want, impl.TableTwice)
		}
		for _, gone := range orders(3) {
			left, want := a, keptTable(want)
			for _, slot := range gone {
				want.Entries = slices.DeleteFunc(want.Entries, func(e impl.Entry) bool { return e.Config.Slot == slot })
				left = wantRemove(t, left, slot, want, 0)
				wantRemove(t, left, slot, want, impl.TableSlot)
			}
		}
	}
}

// Ids are ordered as bytes: 128 and more are above all others.
func TestServersInEachOrder(t *testing.T) {
	ids := []string{"\x00\x00", "\x00\xff", "a0", "\x80\x00", "\xff\x00"}
	c := impl.IdConfig{Slot: 1, Server: 2, Nonce: 4}
	for _, order := range orders(len(ids)) {
		a := tableOf(impl.Entry{Config: c, Next: 77})
		for i, k := range order {
			var servers []impl.Alloc
			for place, id := range ids {
				if slices.Contains(order[:i+1], place) {
					servers = append(servers, impl.Alloc{Id: id, Backend: "b" + string(rune('9'-place))})
				}
			}
			a = wantAlloc(t, a, 1, ids[k], "b"+string(rune('9'-k)), tableOf(impl.Entry{Config: c, Servers: servers, Next: 77}), 0)
		}
		for k, id := range ids {
			wantOwner(t, a, "\x20"+id+"nonc", "b"+string(rune('9'-k)), 0)
			wantAlloc(t, a, 1, id, "new", a, impl.TableTwice)
		}
	}
}

// AES of the key of noughts and the blocks 0, 1 and 2, as the examples of GCM have them.
func TestIdsOfTheKeyOfNoughts(t *testing.T) {
	c := impl.IdConfig{Slot: 2, Server: 8, Nonce: 8, Key: noughts[:16], Told: true}
	servers := []impl.Alloc{{Id: noughts[:8], Backend: "b"}}
	a := tableOf(impl.Entry{Config: c, Servers: servers})
	for i, covered := range []string{"66e94bd4ef8a2c3b884cfa59ca342b2e", "58e2fccefa7e3061367f1d57a4e7455a", "0388dace60b6a392f328c2b971b2fe78"} {
		id := "\x50" + unhex(covered)
		a = wantIssue(t, a, 2, "b", i, tableOf(impl.Entry{Config: c, Servers: servers, Next: i + 1}), id, 0)
		wantOwner(t, a, id, "b", 0)
	}
}

// The nonces are counted over all servers of an entry, each entry by itself.
func TestIdsOfAllLengthsAreCounted(t *testing.T) {
	var s steps
	for slot := range impl.MaxSlots {
		for _, told := range []bool{false, true} {
			for _, c := range configsOf(slot, told, "", s.text(16)) {
				first, second := "\x01"+s.text(c.Server-1), "\x02"+s.text(c.Server-1)
				servers := []impl.Alloc{{Id: first, Backend: "one"}, {Id: second, Backend: "two"}}
				a := tableOf(impl.Entry{Config: c, Servers: servers})
				for i := range 4 {
					server := servers[i%2]
					id := idElsewhere(t, c, server.Id, issuedNonce(i, c.Nonce), 9)
					a = wantIssue(t, a, slot, server.Backend, 9, tableOf(impl.Entry{Config: c, Servers: servers, Next: i + 1}), id, 0)
					wantOwner(t, a, id, server.Backend, 0)
					wantOwner(t, a, id+"more", server.Backend, 0)
				}
			}
		}
	}
}

// Promise 8: an id is its server's as long as the config stands, and no two are the same.
func TestIssuedIdsAreTheirServers(t *testing.T) {
	var s steps
	for _, key := range []string{"", s.text(16)} {
		for _, size := range [][2]int{{1, 4}, {2, 5}, {8, 8}, {15, 4}, {1, 18}} {
			c := impl.IdConfig{Slot: 1, Server: size[0], Nonce: size[1], Key: key}
			a, _ := impl.InstallConfig(impl.Table{}, c)
			owners, last := map[string]string{}, ""
			for i := range impl.MaxServers {
				backend := "b" + string(rune('a'+i))
				a, _ = impl.AllocServer(a, 1, string([]byte{byte(255 - 7*i)})+s.text(c.Server-1), backend)
				for range 30 {
					var id string
					var code int
					a, id, code = impl.IssueId(a, 1, backend, 4)
					if _, there := owners[id]; code != 0 || there || id == last {
						t.Fatalf("%x: %d, issued twice: %v", id, code, there)
					}
					owners[id], last = backend, id
				}
			}
			a, _ = impl.InstallConfig(a, impl.IdConfig{Slot: 0, Server: 1, Nonce: 4})
			a, _ = impl.InstallConfig(a, impl.IdConfig{Slot: 2, Server: 1, Nonce: 4})
			for id, backend := range owners {
				wantOwner(t, a, id, backend, 0)
			}
			a, _ = impl.RemoveConfig(a, 0)
			for id, backend := range owners {
				wantOwner(t, a, id, backend, 0)
			}
			a, _ = impl.RemoveConfig(a, 1)
			for id := range owners {
				wantOwner(t, a, id, "", impl.TableSlot)
			}
		}
	}
}
