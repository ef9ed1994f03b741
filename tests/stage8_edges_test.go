package tests

import (
	"fmt"
	"slices"
	"testing"

	"loop.example/g00206/impl"
)

const mostIssued = 1000000000

// plainConfig is good, with servers' ids of one byte and nonces of four.
func plainConfig(slot int) impl.IdConfig {
	return impl.IdConfig{Slot: slot, Server: 1, Nonce: 4}
}

// manyServers have ids of size bytes, from 16 on in steps of 8, so that others fit between them.
func manyServers(n, size int) []impl.Alloc {
	var l []impl.Alloc
	for i := range n {
		l = append(l, impl.Alloc{Id: string([]byte{byte(16 + 8*i)}) + letters(size-1), Backend: "b" + string(rune('a'+i))})
	}
	return l
}

func TestGoodBackends(t *testing.T) {
	for _, s := range []string{"a", "z", "0", "9", "b1", "1b", "000000000000", "abcdefghijkl", "mnopqrstuvwx", "yz0123456789", letters(12)} {
		if !impl.GoodBackend(s) {
			t.Errorf("%q is good", s)
		}
	}
	for _, s := range []string{"", letters(13), letters(14), letters(100), letters(1 << 20), "-", "a b", "a\n", "B1", "b1 ", " b1", "b_1", "b.1", "é", "b\x00"} {
		if impl.GoodBackend(s) {
			t.Errorf("%q is not good", s)
		}
	}
}

func TestEachByteOfABackend(t *testing.T) {
	for b := range 256 {
		one := string([]byte{byte(b)})
		good := b >= 'a' && b <= 'z' || b >= '0' && b <= '9'
		for _, s := range []string{one, one + "b", "b" + one, "b" + one + "b", letters(11) + one, one + letters(11), letters(5) + one + letters(6)} {
			if impl.GoodBackend(s) != good {
				t.Errorf("%q: not %v", s, good)
			}
		}
		if impl.GoodBackend(one + letters(12)) {
			t.Errorf("%q and more is too long", one)
		}
	}
}

// Backends of a table and those that are allotted are held to the same.
func TestBackendsInTables(t *testing.T) {
	empty := tableOf(impl.Entry{Config: plainConfig(0)})
	for _, s := range []string{"a", "9", letters(12)} {
		with := tableOf(impl.Entry{Config: plainConfig(0), Servers: []impl.Alloc{{Id: "i", Backend: s}}})
		wantGoodTable(t, with, "a good backend")
		wantAlloc(t, empty, 0, "i", s, with, 0)
	}
	for _, s := range []string{"", letters(13), "B", "b-", "\x00", "\xff", "b\x80"} {
		wantNoTable(t, tableOf(impl.Entry{Config: plainConfig(0), Servers: []impl.Alloc{{Id: "i", Backend: s}}}), "no backend")
		wantAlloc(t, empty, 0, "i", s, empty, impl.TableBad)
		wantIssue(t, empty, 0, s, 0, empty, "", impl.TableNone)
	}
}

func TestTablesOfEntries(t *testing.T) {
	wantGoodTable(t, impl.Table{}, "no entries")
	wantGoodTable(t, impl.Table{Entries: []impl.Entry{}}, "no entries")
	for mask := range 8 {
		var a impl.Table
		for slot := range impl.MaxSlots {
			if mask>>slot&1 == 1 {
				a.Entries = append(a.Entries, impl.Entry{Config: plainConfig(slot)})
			}
		}
		wantGoodTable(t, a, "rising Slots")
	}
	for _, slots := range [][]int{{0, 0}, {2, 2}, {1, 0}, {2, 0}, {2, 1}, {0, 2, 1}, {1, 0, 2}, {1, 2, 0}, {2, 0, 1}, {2, 1, 0}, {0, 0, 1}, {0, 1, 1}, {0, 1, 0},
		{1, 1, 1}, {0, 1, 2, 2}, {0, 1, 2, 3}, {0, 1, 2, 0}, {-1, 0, 1, 2}, {-1}, {3}, {6}, {7}, {0, 3}, {0, 1, 3}, {-1, 0}, {minInt}, {maxInt}} {
		var a impl.Table
		for _, slot := range slots {
			a.Entries = append(a.Entries, impl.Entry{Config: plainConfig(slot)})
		}
		wantNoTable(t, a, fmt.Sprint("Slots ", slots))
	}
	wantNoTable(t, impl.Table{Entries: make([]impl.Entry, 1000)}, "many entries")
}

func TestSlotsOfArguments(t *testing.T) {
	full := tableOf(impl.Entry{Config: plainConfig(0)}, impl.Entry{Config: plainConfig(1)}, impl.Entry{Config: plainConfig(2)})
	for i := range full.Entries {
		full.Entries[i].Servers = serversOf("11", "b1")
	}
	for _, slot := range []int{minInt, -1, 3, 4, 6, 7, 8, 256, 1 << 32, maxInt} {
		for _, a := range []impl.Table{{}, full} {
			wantInstall(t, a, plainConfig(slot), a, impl.TableBad)
			wantRemove(t, a, slot, a, impl.TableSlot)
			wantAlloc(t, a, slot, "\x22", "b2", a, impl.TableSlot)
			wantIssue(t, a, slot, "b1", 0, a, "", impl.TableSlot)
		}
	}
	for slot := range impl.MaxSlots {
		config := plainConfig(slot)
		wantInstall(t, impl.Table{}, config, tableOf(impl.Entry{Config: config}), 0)
		wantInstall(t, full, config, full, impl.TableTwice)
		wantRemove(t, impl.Table{}, slot, impl.Table{}, impl.TableSlot)
		wantAlloc(t, impl.Table{}, slot, "\x22", "b2", impl.Table{}, impl.TableSlot)
		wantIssue(t, impl.Table{}, slot, "b1", 0, impl.Table{}, "", impl.TableSlot)

		gone, put, counted := keptTable(full), keptTable(full), keptTable(full)
		gone.Entries = slices.Delete(gone.Entries, slot, slot+1)
		wantRemove(t, full, slot, gone, 0)
		put.Entries[slot].Servers = serversOf("11", "b1", "22", "b2")
		wantAlloc(t, full, slot, "\x22", "b2", put, 0)
		counted.Entries[slot].Next = 1
		wantIssue(t, full, slot, "b1", 0, counted, string([]byte{byte(32 * slot)})+"\x11\x00\x00\x00\x00", 0)
	}
}

func TestConfigsOfTables(t *testing.T) {
	for _, c := range slices.Concat(configsOf(0, false, "", letters(16)), configsOf(2, true, "", letters(16))) {
		a := tableOf(impl.Entry{Config: c})
		wantGoodTable(t, a, "a good config")
		wantInstall(t, impl.Table{}, c, a, 0)
	}
	other := tableOf(impl.Entry{Config: plainConfig(1), Servers: serversOf("01", "b1"), Next: 5})
	for _, c := range []impl.IdConfig{
		{},
		{Server: 0, Nonce: 4}, {Server: 16, Nonce: 4}, {Server: -1, Nonce: 4}, {Server: maxInt, Nonce: 4},
		{Server: 1, Nonce: 3}, {Server: 1, Nonce: 19}, {Server: 1, Nonce: -1}, {Server: 1, Nonce: minInt},
		{Server: 2, Nonce: 18}, {Server: 15, Nonce: 5}, {Server: 10, Nonce: 10},
		{Server: 1, Nonce: 4, Key: letters(15)}, {Server: 1, Nonce: 4, Key: letters(17)}, {Server: 1, Nonce: 4, Key: "k"},
	} {
		wantNoTable(t, tableOf(impl.Entry{Config: c}), "the config is not good")
		wantNoTable(t, tableOf(impl.Entry{Config: c}, other.Entries[0]), "the first config is not good")
		wantInstall(t, impl.Table{}, c, impl.Table{}, impl.TableBad)
		wantInstall(t, other, c, other, impl.TableBad)
		c.Slot = 1
		wantInstall(t, other, c, other, impl.TableBad)
		c.Slot = 2
		wantNoTable(t, tableOf(other.Entries[0], impl.Entry{Config: c}), "the last config is not good")
	}
}

func TestTablesOfServers(t *testing.T) {
	for _, c := range []impl.IdConfig{plainConfig(1), {Slot: 1, Server: 15, Nonce: 4}, {Slot: 1, Server: 8, Nonce: 8, Key: letters(16)}} {
		for n := range impl.MaxServers + 1 {
			wantGoodTable(t, tableOf(impl.Entry{Config: c, Servers: manyServers(n, c.Server)}), "rising servers")
		}
		wantNoTable(t, tableOf(impl.Entry{Config: c, Servers: manyServers(13, c.Server)}), "one server more")
		wantNoTable(t, tableOf(impl.Entry{Config: c, Servers: make([]impl.Alloc, 5000)}), "many servers")
		for _, n := range []int{2, 3, 12} {
			for i := range n - 1 {
				for name, spoil := range map[string]func(l []impl.Alloc){
					"falling ids":         func(l []impl.Alloc) { l[i].Id, l[i+1].Id = l[i+1].Id, l[i].Id },
					"an id twice":         func(l []impl.Alloc) { l[i+1].Id = l[i].Id },
					"a backend twice":     func(l []impl.Alloc) { l[i+1].Backend = l[i].Backend },
					"the first, again":    func(l []impl.Alloc) { l[i+1].Backend = l[0].Backend },
					"the last is ahead":   func(l []impl.Alloc) { l[i].Backend = l[n-1].Backend },
					"a short id":          func(l []impl.Alloc) { l[i].Id = l[i].Id[:c.Server-1] },
					"a short id, the end": func(l []impl.Alloc) { l[n-1].Id = l[n-1].Id[:c.Server-1] },
					"a long id":           func(l []impl.Alloc) { l[i].Id += "x" },
					"a long id, the end":  func(l []impl.Alloc) { l[n-1].Id += "x" },
					"no backend":          func(l []impl.Alloc) { l[i+1].Backend = "" },
				} {
					l := manyServers(n, c.Server)
					spoil(l)
					wantNoTable(t, tableOf(impl.Entry{Config: c, Servers: l}), name)
					wantNoTable(t, tableOf(impl.Entry{Config: plainConfig(0)}, impl.Entry{Config: c, Servers: l}), name+", the second entry")
					wantNoTable(t, tableOf(impl.Entry{Config: c, Servers: l}, impl.Entry{Config: plainConfig(2)}), name+", the first entry")
				}
			}
		}
	}
}

// Ids and backends are told apart within an entry alone: a backend has an id in each config.
func TestServersOfSeveralEntries(t *testing.T) {
	a := tableOf(impl.Entry{Config: plainConfig(0), Servers: serversOf("05", "b1", "06", "b2")}, impl.Entry{Config: plainConfig(1)},
		impl.Entry{Config: plainConfig(2), Servers: serversOf("05", "b1", "06", "b2")})
	wantGoodTable(t, a, "alike in two entries")
	want := keptTable(a)
	want.Entries[1].Servers = serversOf("05", "b2")
	a = wantAlloc(t, a, 1, "\x05", "b2", want, 0)
	wantOwner(t, a, unhex("00 05 00000000"), "b1", 0)
	wantOwner(t, a, unhex("20 05 00000000"), "b2", 0)
	wantOwner(t, a, unhex("40 05 00000000"), "b1", 0)
	wantOwner(t, a, unhex("20 06 00000000"), "", impl.TableNone)
}

func TestServersThatAreRefused(t *testing.T) {
	for _, c := range []impl.IdConfig{plainConfig(2), {Slot: 2, Server: 4, Nonce: 15}, {Slot: 2, Server: 15, Nonce: 4, Key: letters(16)}} {
		a := tableOf(impl.Entry{Config: plainConfig(1)}, impl.Entry{Config: c, Servers: manyServers(11, c.Server), Next: 3})
		for n := range 25 {
			if n != c.Server {
				wantAlloc(t, a, 2, letters(n), "new", a, impl.TableBad)
			}
		}
		for _, x := range a.Entries[1].Servers {
			wantAlloc(t, a, 2, x.Id, "new", a, impl.TableTwice)
			wantAlloc(t, a, 2, "\x05"+letters(c.Server-1), x.Backend, a, impl.TableTwice)
			wantAlloc(t, a, 2, x.Id, x.Backend, a, impl.TableTwice)
		}
		full := keptTable(a)
		full.Entries[1].Servers = append(full.Entries[1].Servers, impl.Alloc{Id: "\xff" + letters(c.Server-1), Backend: "new"})
		wantAlloc(t, a, 2, "\xff"+letters(c.Server-1), "new", full, 0)
		for _, first := range []string{"\x00", "\x15", "\x75", "\xfe"} {
			wantAlloc(t, full, 2, first+letters(c.Server-1), "newer", full, impl.TableFull)
		}
	}
}

func TestNextAtTheEdges(t *testing.T) {
	entry := func(next int) impl.Table {
		return tableOf(impl.Entry{Config: plainConfig(0), Servers: serversOf("11", "b1"), Next: next})
	}
	for _, next := range []int{0, 1, 255, 256, 65535, 65536, 16777215, 16777216, mostIssued - 2, mostIssued - 1} {
		a := entry(next)
		wantGoodTable(t, a, "Next")
		a = wantIssue(t, a, 0, "b1", 7, entry(next+1), "\x07\x11"+issuedNonce(next, 4), 0)
		wantGoodTable(t, a, "one more")
	}
	full := entry(mostIssued)
	wantGoodTable(t, full, "the last Next")
	wantIssue(t, full, 0, "b1", 7, full, "", impl.TableFull)
	wantOwner(t, full, "\x07\x11"+issuedNonce(mostIssued-1, 4), "b1", 0)
	put := entry(mostIssued)
	put.Entries[0].Servers = serversOf("11", "b1", "12", "b2")
	wantAlloc(t, full, 0, "\x12", "b2", put, 0)
	for _, next := range []int{minInt, -mostIssued, -1, mostIssued + 1, 1 << 32, maxInt} {
		wantNoTable(t, entry(next), "Next")
	}
}

func TestNoncesOfAllLengths(t *testing.T) {
	wantNonces := map[int]string{
		0:              "00000000 00000000 00000000 00000000 0000",
		258:            "00000000 00000000 00000000 00000000 0102",
		16909060:       "00000000 00000000 00000000 00000102 0304",
		mostIssued - 1: "00000000 00000000 00000000 00003b9a c9ff",
	}
	for next, nonce := range wantNonces {
		for size := 4; size <= impl.MaxIdNonce; size++ {
			c := impl.IdConfig{Slot: 1, Server: 1, Nonce: size}
			a := tableOf(impl.Entry{Config: c, Servers: serversOf("ee", "b1"), Next: next})
			behind := keptTable(a)
			behind.Entries[0].Next++
			wantIssue(t, a, 1, "b1", 0, behind, "\x20\xee"+unhex(nonce)[18-size:], 0)
		}
	}
}

func TestSparesOfTables(t *testing.T) {
	for _, told := range []bool{false, true} {
		c := impl.IdConfig{Slot: 2, Server: 1, Nonce: 4, Told: told}
		a := tableOf(impl.Entry{Config: c, Servers: serversOf("ee", "b1"), Next: 9})
		behind := tableOf(impl.Entry{Config: c, Servers: serversOf("ee", "b1"), Next: 10})
		for _, spare := range []int{0, 1, 30, 31} {
			first := 64 + spare
			if told {
				first = 64 + 5
			}
			wantIssue(t, a, 2, "b1", spare, behind, string([]byte{byte(first)})+"\xee\x00\x00\x00\x09", 0)
		}
		for _, spare := range []int{minInt, -32, -1, 32, 33, 64, 256, 1 << 32, maxInt} {
			wantIssue(t, a, 2, "b1", spare, a, "", impl.TableBad)
		}
	}
}

func TestOwnersAtTheEdges(t *testing.T) {
	var s steps
	single := impl.IdConfig{Slot: 1, Server: 8, Nonce: 8, Key: s.text(16)}
	four := impl.IdConfig{Slot: 2, Server: 3, Nonce: 4, Key: s.text(16), Told: true}
	a := tableOf(impl.Entry{Config: plainConfig(0), Servers: serversOf("11", "b1", "33", "b3")},
		impl.Entry{Config: single, Servers: manyServers(12, 8)}, impl.Entry{Config: four, Servers: manyServers(12, 3), Next: 4})
	wantOwner(t, a, "", "", impl.TableBad)
	wantOwner(t, impl.Table{}, "", "", impl.TableBad)
	for _, e := range a.Entries {
		for _, x := range e.Servers {
			id := idElsewhere(t, e.Config, x.Id, s.text(e.Config.Nonce), 13)
			wantOwner(t, a, id, x.Backend, 0)
			wantOwner(t, a, id+"\x00", x.Backend, 0)
			wantOwner(t, a, id+letters(3000), x.Backend, 0)
			for n := 1; n < len(id); n++ {
				wantOwner(t, a, id[:n], "", impl.TableBad)
				wantOwner(t, impl.Table{}, id[:n], "", impl.TableSlot)
			}
			for slot := 3; slot <= 7; slot++ {
				for _, n := range []int{1, len(id)} {
					wantOwner(t, a, (string([]byte{byte(slot << 5)}) + id[1:])[:n], "", impl.TableSlot)
				}
			}
		}
		for _, id := range []string{"\x00", "\x12", "\x22", "\x34", "\xff"} {
			nobody := idElsewhere(t, e.Config, id+letters(e.Config.Server-1), s.text(e.Config.Nonce), 13)
			wantOwner(t, a, nobody, "", impl.TableNone)
		}
	}
	wantOwner(t, tableOf(impl.Entry{Config: plainConfig(0)}), "\x00\x11\x00\x00\x00\x00", "", impl.TableNone)
}

func TestSlotsOfIds(t *testing.T) {
	for first := range 256 {
		for _, behind := range []string{"", "\xff", letters(5000)} {
			want, good := first/32, first < 224
			if !good {
				want = 0
			}
			if got, ok := impl.SlotOf(string([]byte{byte(first)}) + behind); got != want || ok != good {
				t.Errorf("%d: %d %v, not %d %v", first, got, ok, want, good)
			}
		}
	}
	if got, ok := impl.SlotOf(""); got != 0 || ok {
		t.Error(got, ok)
	}
}

// Of several codes that fit the first one is told, as the chapter orders them.
func TestWhichCodeIsTold(t *testing.T) {
	full := tableOf(impl.Entry{Config: plainConfig(1), Servers: manyServers(12, 1), Next: mostIssued})
	there := full.Entries[0].Servers[0]

	wantInstall(t, full, impl.IdConfig{Slot: 1, Server: 0, Nonce: 4}, full, impl.TableBad)
	wantInstall(t, full, plainConfig(1), full, impl.TableTwice)

	wantAlloc(t, full, 0, "", "", full, impl.TableBad)
	wantAlloc(t, full, 0, there.Id, "B", full, impl.TableBad)
	wantAlloc(t, full, 0, "too long", there.Backend, full, impl.TableSlot)
	wantAlloc(t, full, 0, "", there.Backend, full, impl.TableSlot)
	wantAlloc(t, full, 1, there.Id+"x", there.Backend, full, impl.TableBad)
	wantAlloc(t, full, 1, "", there.Backend, full, impl.TableBad)
	wantAlloc(t, full, 1, there.Id, "B", full, impl.TableBad)
	wantAlloc(t, full, 1, there.Id, "new", full, impl.TableTwice)
	wantAlloc(t, full, 1, "\x01", there.Backend, full, impl.TableTwice)
	wantAlloc(t, full, 1, "\x01", "new", full, impl.TableFull)

	wantIssue(t, full, 0, "nobody", 32, full, "", impl.TableBad)
	wantIssue(t, full, 1, "nobody", -1, full, "", impl.TableBad)
	wantIssue(t, full, 1, there.Backend, 32, full, "", impl.TableBad)
	wantIssue(t, full, 0, "nobody", 0, full, "", impl.TableSlot)
	wantIssue(t, full, 0, there.Backend, 0, full, "", impl.TableSlot)
	wantIssue(t, full, 1, "nobody", 0, full, "", impl.TableNone)
	wantIssue(t, full, 1, there.Backend, 0, full, "", impl.TableFull)

	wantOwner(t, full, "\x00", "", impl.TableSlot)
	wantOwner(t, full, "\xff", "", impl.TableSlot)
	wantOwner(t, full, "\x20", "", impl.TableBad)
	wantOwner(t, full, "\x20\x01\x00\x00\x00", "", impl.TableBad)
	wantOwner(t, full, "\x20\x01\x00\x00\x00\x00", "", impl.TableNone)
}
