package tests

import (
	"slices"
	"strings"
	"testing"
	"unsafe"

	"loop.example/g00206/impl"
)

// heldEntry is an entry told another way: owners by the servers' ids, in no order.
type heldEntry struct {
	config impl.IdConfig
	owners map[string]string
	next   int
}

// heldTable has a place for each Slot, which may be empty.
type heldTable [impl.MaxSlots]*heldEntry

func (h *heldTable) at(slot int) *heldEntry {
	if slot < 0 || slot >= len(h) {
		return nil
	}
	return h[slot]
}

func (e *heldEntry) idOf(backend string) (string, bool) {
	for id, b := range e.owners {
		if b == backend {
			return id, true
		}
	}
	return "", false
}

func (h *heldTable) told() impl.Table {
	var a impl.Table
	for _, e := range h {
		if e == nil {
			continue
		}
		entry := impl.Entry{Config: e.config, Next: e.next}
		for id, backend := range e.owners {
			entry.Servers = append(entry.Servers, impl.Alloc{Id: id, Backend: backend})
		}
		slices.SortFunc(entry.Servers, func(x, y impl.Alloc) int { return strings.Compare(x.Id, y.Id) })
		a.Entries = append(a.Entries, entry)
	}
	return a
}

func backendTold(s string) bool {
	return len(s) >= 1 && len(s) <= 12 && strings.Trim(s, "abcdefghijklmnopqrstuvwxyz0123456789") == ""
}

func (h *heldTable) install(c impl.IdConfig) int {
	if !configTold(c) || c.Slot > 2 {
		return impl.TableBad
	}
	if h[c.Slot] != nil {
		return impl.TableTwice
	}
	h[c.Slot] = &heldEntry{config: c, owners: map[string]string{}}
	return impl.TableOk
}

func (h *heldTable) remove(slot int) int {
	if h.at(slot) == nil {
		return impl.TableSlot
	}
	h[slot] = nil
	return impl.TableOk
}

func (h *heldTable) alloc(slot int, id, backend string) int {
	if !backendTold(backend) {
		return impl.TableBad
	}
	e := h.at(slot)
	if e == nil {
		return impl.TableSlot
	}
	if len(id) != e.config.Server {
		return impl.TableBad
	}
	_, idThere := e.owners[id]
	if _, there := e.idOf(backend); there || idThere {
		return impl.TableTwice
	}
	if len(e.owners) == 12 {
		return impl.TableFull
	}
	e.owners[id] = backend
	return impl.TableOk
}

func (h *heldTable) issue(t *testing.T, slot int, backend string, spare int) (string, int) {
	if spare < 0 || spare > 31 {
		return "", impl.TableBad
	}
	e := h.at(slot)
	if e == nil {
		return "", impl.TableSlot
	}
	server, there := e.idOf(backend)
	if !there {
		return "", impl.TableNone
	}
	if e.next == mostIssued {
		return "", impl.TableFull
	}
	e.next++
	return idElsewhere(t, e.config, server, issuedNonce(e.next-1, e.config.Nonce), spare), impl.TableOk
}

// someSlot is mostly one that a table may have.
func (s *steps) someSlot() int {
	if s.below(12) == 0 {
		return s.below(12) - 4
	}
	return s.below(3)
}

// someBackend is one of a few, so that many come twice, and seldom none.
func (s *steps) someBackend() string {
	if s.below(15) == 0 {
		return []string{"", "B", letters(13), "b-1", "\xff"}[s.below(5)]
	}
	return "b" + string(rune('a'+s.below(16)))
}

// someServer is an id of one of a few, mostly as long as the one of the slot.
func (s *steps) someServer(a impl.Table, slot int) string {
	size := s.below(17)
	for _, e := range a.Entries {
		if e.Config.Slot == slot && s.below(10) > 0 {
			size = e.Config.Server
		}
	}
	if size == 0 {
		return ""
	}
	return string([]byte{byte(13 * s.below(19))}) + letters(size-1)
}

func (s *steps) tableConfig() impl.IdConfig {
	c := s.someConfig()
	if s.below(8) > 0 {
		c.Slot = s.below(3)
	}
	return c
}

// issuedId is what promise 8 speaks of: it holds as long as the slot's entry is the same one.
type issuedId struct {
	id, backend string
	slot        int
	of          *heldEntry
}

// Tables gone through in many steps, each held against entries told another way.
func TestTablesInManySteps(t *testing.T) {
	var s steps
	done := map[string][6]int{}
	count := func(what string, code int) {
		n := done[what]
		n[code]++
		done[what] = n
	}
	for range 40 {
		var a impl.Table
		var h heldTable
		var issued []issuedId
		for range 500 {
			switch what := s.below(40); {
			case what < 4:
				c := s.tableConfig()
				code := h.install(c)
				a = wantInstall(t, a, c, h.told(), code)
				count("install", code)
			case what < 5:
				slot := s.someSlot()
				code := h.remove(slot)
				a = wantRemove(t, a, slot, h.told(), code)
				count("remove", code)
			case what < 22:
				slot, backend := s.someSlot(), s.someBackend()
				id := s.someServer(a, slot)
				code := h.alloc(slot, id, backend)
				a = wantAlloc(t, a, slot, id, backend, h.told(), code)
				count("alloc", code)
			case what < 39:
				slot, backend, spare := s.someSlot(), s.someBackend(), s.below(34)-1
				id, code := h.issue(t, slot, backend, spare)
				a = wantIssue(t, a, slot, backend, spare, h.told(), id, code)
				count("issue", code)
				if code == impl.TableOk {
					issued = append(issued, issuedId{id, backend, slot, h[slot]})
				}
			default:
				// Nobody waits for so many ids; a table may come with that many told.
				if len(a.Entries) > 0 {
					e := &a.Entries[s.below(len(a.Entries))]
					e.Next = max(e.Next, mostIssued-s.below(3))
					h[e.Config.Slot].next = e.Next
				}
			}
			wantGoodTable(t, a, "what a table becomes")
			if t.Failed() {
				t.FailNow()
			}
		}
		wantStanding(t, a, h, issued)
	}
	for what, codes := range map[string][]int{"install": {0, 1, 3}, "remove": {0, 2}, "alloc": {0, 1, 2, 3, 4}, "issue": {0, 1, 2, 4, 5}} {
		for _, code := range codes {
			if done[what][code] < 5 {
				t.Errorf("%s: code %d came %d times", what, code, done[what][code])
			}
		}
	}
}

// wantStanding holds what was issued against the table in the end.
func wantStanding(t *testing.T, a impl.Table, h heldTable, issued []issuedId) {
	t.Helper()
	seen := map[*heldEntry]map[string]int{}
	for _, x := range issued {
		if h[x.slot] == x.of {
			wantOwner(t, a, x.id, x.backend, 0)
		}
		if seen[x.of] == nil {
			seen[x.of] = map[string]int{}
		}
		if seen[x.of][x.id]++; seen[x.of][x.id] > 1 {
			t.Errorf("%x is issued twice", x.id)
		}
	}
}

// someTable is nearly always good.
func (s *steps) someTable() impl.Table {
	var a impl.Table
	for slot := range impl.MaxSlots {
		if s.below(3) == 0 {
			continue
		}
		size := lengthsOfIds()[s.below(len(lengthsOfIds()))]
		c := impl.IdConfig{Slot: slot, Server: size[0], Nonce: size[1], Key: s.text(16 * s.below(2)), Told: s.below(2) == 0}
		a.Entries = append(a.Entries, impl.Entry{Config: c, Servers: manyServers(s.below(13), c.Server), Next: s.below(mostIssued + 1)})
	}
	if len(a.Entries) == 0 || s.below(2) == 0 {
		return a
	}
	e := &a.Entries[s.below(len(a.Entries))]
	switch s.below(8) {
	case 0:
		e.Config.Slot = s.below(6) - 1
	case 1:
		e.Next = s.below(20) - 10
	case 2:
		e.Config = s.someConfig()
	case 3:
		e.Servers = append(e.Servers, impl.Alloc{Id: "\xff" + letters(e.Config.Server-1), Backend: s.someBackend()})
	case 4:
		a.Entries = append(a.Entries, a.Entries[s.below(len(a.Entries))])
	default:
		if len(e.Servers) > 0 {
			x := &e.Servers[s.below(len(e.Servers))]
			*x = impl.Alloc{Id: x.Id + letters(s.below(20)/19), Backend: s.someBackend()}
		}
	}
	return a
}

func tableTold(a impl.Table) bool {
	slots, good := map[int]bool{}, len(a.Entries) <= 3
	for i, e := range a.Entries {
		ids, backends := map[string]bool{}, map[string]bool{}
		for j, x := range e.Servers {
			good = good && len(x.Id) == e.Config.Server && backendTold(x.Backend) && (j == 0 || strings.Compare(e.Servers[j-1].Id, x.Id) < 0)
			ids[x.Id], backends[x.Backend] = true, true
		}
		good = good && configTold(e.Config) && e.Config.Slot <= 2 && (i == 0 || a.Entries[i-1].Config.Slot < e.Config.Slot) &&
			len(e.Servers) <= 12 && len(ids) == len(e.Servers) && len(backends) == len(e.Servers) && e.Next >= 0 && e.Next <= mostIssued
		slots[e.Config.Slot] = true
	}
	return good && len(slots) == len(a.Entries)
}

// heldOf tells a good table the other way.
func heldOf(a impl.Table) *heldTable {
	var h heldTable
	for _, e := range a.Entries {
		h[e.Config.Slot] = &heldEntry{config: e.Config, owners: map[string]string{}, next: e.Next}
		for _, x := range e.Servers {
			h[e.Config.Slot].owners[x.Id] = x.Backend
		}
	}
	return &h
}

func TestTablesAtAnyArguments(t *testing.T) {
	var s steps
	seen := [2]int{}
	for range 4000 {
		a := s.someTable()
		if !tableTold(a) {
			seen[0]++
			wantNoTable(t, a, "any table")
			continue
		}
		seen[1]++
		wantGoodTable(t, a, "any table")
		c, slot, backend, spare := s.tableConfig(), s.someSlot(), s.someBackend(), s.below(40)-4
		id := s.someServer(a, slot)
		h := heldOf(a)
		code := h.install(c)
		wantInstall(t, a, c, h.told(), code)
		h = heldOf(a)
		code = h.remove(slot)
		wantRemove(t, a, slot, h.told(), code)
		h = heldOf(a)
		code = h.alloc(slot, id, backend)
		wantAlloc(t, a, slot, id, backend, h.told(), code)
		h = heldOf(a)
		issued, code := h.issue(t, slot, backend, spare)
		wantIssue(t, a, slot, backend, spare, h.told(), issued, code)
	}
	if min(seen[0], seen[1]) < 500 {
		t.Error(seen)
	}
}

func TestOwnersOfAnyBytes(t *testing.T) {
	var s steps
	for range 6000 {
		a, id := s.someTable(), s.text(s.below(25))
		if !tableTold(a) {
			wantOwner(t, a, id, "", impl.TableBad)
			continue
		}
		if len(id) == 0 {
			wantOwner(t, a, id, "", impl.TableBad)
			continue
		}
		id = string([]byte{id[0] & 127}) + id[1:]
		e := heldOf(a).at(int(id[0] >> 5))
		if e == nil {
			wantOwner(t, a, id, "", impl.TableSlot)
			continue
		}
		server, _, ok := impl.DecodeId(e.config, id)
		if !ok {
			wantOwner(t, a, id, "", impl.TableBad)
			continue
		}
		backend, there := e.owners[server]
		wantOwner(t, a, id, backend, map[bool]int{true: impl.TableOk, false: impl.TableNone}[there])
	}
}

// A table in one memory of texts and with more behind each of its lists, so that it shows whatever is written there.
type watchedTable struct {
	table   impl.Table
	texts   []byte
	kept    string
	entries []impl.Entry
	servers [][]impl.Alloc
}

func watched(a impl.Table) watchedTable {
	w := watchedTable{texts: make([]byte, 0, 4000)}
	put := func(text string) string {
		w.texts = append(w.texts, text...)
		return bare(w.texts[len(w.texts)-len(text):])
	}
	for _, e := range a.Entries {
		e.Config.Key = put(e.Config.Key)
		servers := make([]impl.Alloc, len(e.Servers), len(e.Servers)+4)
		for i, x := range e.Servers {
			servers[i] = impl.Alloc{Id: put(x.Id), Backend: put(x.Backend)}
		}
		w.servers = append(w.servers, servers[:cap(servers)])
		e.Servers = servers
		w.entries = append(w.entries, e)
	}
	w.entries = append(w.entries, make([]impl.Entry, 4)...)
	w.table.Entries = w.entries[:len(a.Entries)]
	w.kept = string(w.texts)
	return w
}

// wantUnwritten looks at the texts and at what lies behind the lists; the lists themselves are held by wantKept.
func (w watchedTable) wantUnwritten(t *testing.T) {
	t.Helper()
	if string(w.texts) != w.kept {
		t.Fatal("a text of the table is written into")
	}
	for i, e := range w.entries[len(w.table.Entries):] {
		if e.Next != 0 || e.Servers != nil || e.Config != (impl.IdConfig{}) {
			t.Fatalf("something is written behind the entries: %d %+v", i, e)
		}
	}
	for i, l := range w.servers {
		for _, x := range l[len(w.table.Entries[i].Servers):] {
			if x != (impl.Alloc{}) {
				t.Fatalf("something is written behind the servers: %+v", x)
			}
		}
	}
}

// memory is from where to where a list reaches, with what lies behind its length.
type memory struct{ from, to uintptr }

func memoryOf[T any](l []T) memory {
	var one T
	from := uintptr(unsafe.Pointer(unsafe.SliceData(l)))
	return memory{from, from + uintptr(cap(l))*unsafe.Sizeof(one)}
}

func memoriesOf(a impl.Table) []memory {
	l := []memory{memoryOf(a.Entries)}
	for _, e := range a.Entries {
		l = append(l, memoryOf(e.Servers))
	}
	return slices.DeleteFunc(l, func(m memory) bool { return m.from == m.to })
}

// wantNewTable holds an answer against what it was made of: no list and no text of it lies there, and no two of its lists together.
func wantNewTable(t *testing.T, answer, of impl.Table, texts ...string) {
	t.Helper()
	own := memoriesOf(answer)
	for i, m := range own {
		for _, other := range slices.Concat(memoriesOf(of), own[:i]) {
			if m.from < other.to && other.from < m.to {
				t.Fatalf("two lists share memory: %+v of %+v", answer, of)
			}
		}
	}
	for _, e := range answer.Entries {
		wantNew(t, e.Config.Key, texts...)
		for _, x := range e.Servers {
			wantNew(t, x.Id, texts...)
			wantNew(t, x.Backend, texts...)
		}
	}
}

func TestTablesWriteIntoNothing(t *testing.T) {
	var s steps
	codes := map[int]int{}
	for range 1500 {
		w := watched(s.someTable())
		a, kept := w.table, keptTable(w.table)
		slot := s.someSlot()
		given := []byte(s.text(16) + s.someServer(a, slot) + s.someBackend())
		was, one := string(given), bare(given)
		size := len(given) - 16
		for _, e := range a.Entries {
			if e.Config.Slot == slot {
				size = min(e.Config.Server, size)
			}
		}
		c := impl.IdConfig{Slot: slot, Server: 3, Nonce: 4, Key: one[:16]}
		for _, call := range []func() (impl.Table, int){
			func() (impl.Table, int) { return impl.InstallConfig(a, c) },
			func() (impl.Table, int) { return impl.RemoveConfig(a, slot) },
			func() (impl.Table, int) { return impl.AllocServer(a, slot, one[16:16+size], one[16+size:]) },
			func() (impl.Table, int) {
				b, id, code := impl.IssueId(a, slot, "ba", s.below(40))
				wantNew(t, id, bare(w.texts))
				return b, code
			},
		} {
			got, code := call()
			codes[code]++
			wantNewTable(t, got, a, bare(w.texts), one)
			wantKept(t, "any call", a, kept)
			w.wantUnwritten(t)
			// What is done to an answer is not seen in what it was made of, nor in the next answer.
			for i := range got.Entries {
				e := &got.Entries[i]
				e.Servers = append(e.Servers, impl.Alloc{Id: "mine", Backend: "mine"})
				e.Servers[0], e.Next = impl.Alloc{Id: "mine", Backend: "mine"}, -7
			}
			wantKept(t, "an answer that is changed", a, kept)
			w.wantUnwritten(t)
		}
		id := s.text(1 + s.below(24))
		backend, code := impl.OwnerOf(a, id)
		codes[code]++
		wantNew(t, backend, bare(w.texts))
		if string(given) != was {
			t.Fatal("a text that was given is written into")
		}
		w.wantUnwritten(t)
		wantKept(t, "OwnerOf", a, kept)
	}
	for code := range 6 {
		if codes[code] < 5 && code != impl.TableFull {
			t.Errorf("code %d came %d times", code, codes[code])
		}
	}
}

// An owner is told in memory of its own too.
func TestOwnersAreNew(t *testing.T) {
	w := watched(tableOf(impl.Entry{Config: plainConfig(0), Servers: serversOf("11", "b1", "22", "backend")}))
	for id, want := range map[string]string{"\x00\x11nonc": "b1", "\x00\x22nonc": "backend"} {
		backend, code := impl.OwnerOf(w.table, id)
		if backend != want || code != 0 {
			t.Error(backend, code)
		}
		wantNew(t, backend, bare(w.texts))
	}
	w.wantUnwritten(t)
}

// Entries may lie in one memory when they are handed in; in an answer they don't.
func TestTablesThatShareTheirLists(t *testing.T) {
	servers := serversOf("11", "b1", "22", "b2")
	a := tableOf(impl.Entry{Config: plainConfig(0), Servers: servers}, impl.Entry{Config: plainConfig(2), Servers: servers})
	got := wantAlloc(t, a, 0, "\x1a", "b3", tableOf(impl.Entry{Config: plainConfig(0), Servers: serversOf("11", "b1", "1a", "b3", "22", "b2")},
		impl.Entry{Config: plainConfig(2), Servers: servers}), 0)
	wantNewTable(t, got, a)
	got = wantInstall(t, a, plainConfig(1), tableOf(a.Entries[0], impl.Entry{Config: plainConfig(1)}, a.Entries[1]), 0)
	wantNewTable(t, got, a)
	got = wantRemove(t, a, 1, a, impl.TableSlot)
	wantNewTable(t, got, a)
}

// What a map is gone through in is never seen: the same call answers the same.
func TestTablesAnswerTheSameAgain(t *testing.T) {
	a := tableOf(impl.Entry{Config: plainConfig(0)}, impl.Entry{Config: plainConfig(2), Servers: serversOf("11", "b1")})
	want := tableOf(a.Entries[0], impl.Entry{Config: plainConfig(1)}, a.Entries[1])
	for range 300 {
		wantInstall(t, a, plainConfig(1), want, 0)
	}
}
