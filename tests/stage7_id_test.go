package tests

import (
	"fmt"
	"testing"

	"loop.example/g00206/impl"
)

// lengthsOfIds are all lengths of a server's id and a nonce that a good config may have.
func lengthsOfIds() [][2]int {
	var l [][2]int
	for server := 1; server <= 15; server++ {
		for nonce := 4; nonce <= 18 && server+nonce <= 19; nonce++ {
			l = append(l, [2]int{server, nonce})
		}
	}
	return l
}

func configsOf(slot int, told bool, keys ...string) []impl.IdConfig {
	var l []impl.IdConfig
	for _, size := range lengthsOfIds() {
		for _, key := range keys {
			l = append(l, impl.IdConfig{Slot: slot, Server: size[0], Nonce: size[1], Key: key, Told: told})
		}
	}
	return l
}

// idElsewhere makes an id by Go's own library.
func idElsewhere(t *testing.T, c impl.IdConfig, server, nonce string, spare int) string {
	t.Helper()
	both := server + nonce
	if c.Told {
		spare = len(both)
	}
	first := string([]byte{byte(c.Slot<<5 | spare)})
	if c.Key == "" {
		return first + both
	}
	if len(both) == 16 {
		return first + libraryBlock(t, c.Key, both)
	}
	return first + fourElsewhere(t, sidedBlock, c.Key, both)
}

func wantConfig(t *testing.T, c impl.IdConfig, good bool, kind int) {
	t.Helper()
	if got := impl.GoodConfig(c); got != good {
		t.Errorf("GoodConfig of %+v: %v", c, got)
	}
	if got, ok := impl.KindOf(c); got != kind || ok != good {
		t.Errorf("KindOf of %+v: %d %v, not %d", c, got, ok, kind)
	}
}

// wantNoConfig holds all that a config goes into against one that is not good, with all else as said.
func wantNoConfig(t *testing.T, c impl.IdConfig) {
	t.Helper()
	wantConfig(t, c, false, 0)
	server, nonce := letters(min(max(c.Server, 0), 40)), letters(min(max(c.Nonce, 0), 40))
	wantNoId(t, c, server, nonce, 0, "the config is not good")
	first := string([]byte{byte(c.Slot << 5)})
	wantNoServer(t, c, first+letters(100), "the config is not good")
	wantNoServer(t, c, "", "the config is not good")
}

func wantId(t *testing.T, c impl.IdConfig, server, nonce string, spare int, want string) {
	t.Helper()
	if got, ok := impl.EncodeId(c, server, nonce, spare); got != want || !ok {
		t.Errorf("%+v, %x, %x, %d: %x %v, not %x", c, server, nonce, spare, got, ok, want)
	}
	wantServer(t, c, want, server, nonce)
}

func wantNoId(t *testing.T, c impl.IdConfig, server, nonce string, spare int, why string) {
	t.Helper()
	if got, ok := impl.EncodeId(c, server, nonce, spare); got != "" || ok {
		t.Errorf("%s: %+v, %x, %x, %d: %x %v", why, c, server, nonce, spare, got, ok)
	}
}

func wantServer(t *testing.T, c impl.IdConfig, id, server, nonce string) {
	t.Helper()
	if a, b, ok := impl.DecodeId(c, id); a != server || b != nonce || !ok {
		t.Errorf("%+v, %x: %x and %x, %v, not %x and %x", c, id, a, b, ok, server, nonce)
	}
}

func wantNoServer(t *testing.T, c impl.IdConfig, id, why string) {
	t.Helper()
	if a, b, ok := impl.DecodeId(c, id); a != "" || b != "" || ok {
		t.Errorf("%s: %+v, %x: %x and %x, %v", why, c, id, a, b, ok)
	}
}

func TestLimitsOfIds(t *testing.T) {
	if impl.MaxServerId != 15 || impl.MaxIdNonce != 18 || impl.LoadPlain != 0 || impl.LoadSingle != 1 || impl.LoadFour != 2 {
		t.Error("a constant is not as told")
	}
}

func TestGoodConfigs(t *testing.T) {
	for _, size := range lengthsOfIds() {
		for slot := 0; slot <= 6; slot++ {
			for _, told := range []bool{false, true} {
				c := impl.IdConfig{Slot: slot, Server: size[0], Nonce: size[1], Told: told}
				wantConfig(t, c, true, impl.LoadPlain)
				c.Key = letters(16)
				kind := impl.LoadFour
				if size[0]+size[1] == 16 {
					kind = impl.LoadSingle
				}
				wantConfig(t, c, true, kind)
			}
		}
	}
}

func TestConfigsAtTheEdges(t *testing.T) {
	for server := -2; server <= 25; server++ {
		for nonce := -2; nonce <= 25; nonce++ {
			c := impl.IdConfig{Slot: 3, Server: server, Nonce: nonce}
			if server >= 1 && server <= 15 && nonce >= 4 && nonce <= 18 && server+nonce <= 19 {
				wantConfig(t, c, true, impl.LoadPlain)
				continue
			}
			wantNoConfig(t, c)
			c.Key = letters(16)
			wantNoConfig(t, c)
		}
	}
	for _, slot := range []int{minInt, -8, -1, 7, 8, 255, 256, 1 << 32, 1 << 59, maxInt} {
		wantNoConfig(t, impl.IdConfig{Slot: slot, Server: 2, Nonce: 4})
		wantNoConfig(t, impl.IdConfig{Slot: slot, Server: 8, Nonce: 8, Key: letters(16)})
	}
	for _, n := range []int{1, 2, 15, 17, 24, 32, 1000} {
		wantNoConfig(t, impl.IdConfig{Server: 2, Nonce: 4, Key: letters(n)})
		wantNoConfig(t, impl.IdConfig{Server: 8, Nonce: 8, Key: letters(n)})
	}
	wantNoConfig(t, impl.IdConfig{})
}

// Lengths that only together run over to what would be good.
func TestConfigsOfGreatLengths(t *testing.T) {
	for _, size := range [][2]int{{maxInt, 10}, {10, maxInt}, {maxInt, maxInt}, {minInt, minInt}, {minInt, maxInt}, {maxInt - 8, minInt + 8},
		{1 << 63 >> 1, 10}, {1<<32 + 2, 4}, {2, 1<<32 + 4}, {256 + 2, 4}, {2, 256 + 4}, {-4, 18}, {18, -2}} {
		wantNoConfig(t, impl.IdConfig{Server: size[0], Nonce: size[1]})
		wantNoConfig(t, impl.IdConfig{Server: size[0], Nonce: size[1], Key: letters(16)})
	}
}

// QUIC-LB's examples, without a key and with one block; FIPS 197's example block.
func TestIdsAsTold(t *testing.T) {
	for _, x := range []struct {
		slot                   int
		key, server, nonce, id string
	}{
		{0, "", "c4605e", "4504cc4f", "07c4605e4504cc4f"},
		{1, "", "350d28b420", "3487d970b2", "2a350d28b4203487d970b2"},
		{2, balancerKey, "ed793a51d49b8f5f", "ee080dbf48c0d1e5", "504dd2d05a7b0de9b2b9907afb5ecf8cc3"},
		{0, "000102030405060708090a0b0c0d0e0f", "0011223344556677", "8899aabbccddeeff", "1069c4e0d86a7b0430d8cdb78070b4c55a"},
		{0, balancerKey, "ed793a", "ee080dbf", "077d0b107dd4f4e8"},
		{1, balancerKey, "ed793a51d49b8f5fab65", "ee080dbf48", "2fbfbeda92fd4d136f11aae81124ac81"},
		{6, balancerKey, "ed793a51d49b8f5fab", "ee080dbf48c0d1e55d", "d2ac4a78a3ccfcb9eff846329472705ff5cbab"},
	} {
		server, nonce := unhex(x.server), unhex(x.nonce)
		c := impl.IdConfig{Slot: x.slot, Server: len(server), Nonce: len(nonce), Key: unhex(x.key), Told: true}
		wantId(t, c, server, nonce, 0, unhex(x.id))
		wantId(t, c, server, nonce, 31, unhex(x.id))
		c.Told = false
		wantId(t, c, server, nonce, 0, string([]byte{byte(32 * x.slot)})+unhex(x.id)[1:])
	}
}

// One block may be cut anywhere between the server's id and the nonce.
func TestSingleIsTheExampleBlock(t *testing.T) {
	plain, covered := unhex("00112233445566778899aabbccddeeff"), unhex("69c4e0d86a7b0430d8cdb78070b4c55a")
	for server := 1; server <= 12; server++ {
		c := impl.IdConfig{Slot: 4, Server: server, Nonce: 16 - server, Key: unhex("000102030405060708090a0b0c0d0e0f")}
		wantConfig(t, c, true, impl.LoadSingle)
		wantId(t, c, plain[:server], plain[server:], 9, "\x89"+covered)
	}
}

// Promise 7: servers and nonces come back from ids.
func TestIdsComeBack(t *testing.T) {
	var s steps
	for slot := 0; slot <= 6; slot++ {
		for _, told := range []bool{false, true} {
			for _, c := range configsOf(slot, told, "", s.text(16)) {
				server, nonce, spare := s.text(c.Server), s.text(c.Nonce), s.below(32)
				id := idElsewhere(t, c, server, nonce, spare)
				wantId(t, c, server, nonce, spare, id)
				if len(id) != 1+c.Server+c.Nonce {
					t.Fatal(len(id))
				}
			}
		}
	}
}

func TestSpares(t *testing.T) {
	for _, c := range append(configsOf(5, false, "", letters(16)), configsOf(5, true, "", letters(16))...) {
		server, nonce := letters(c.Server), letters(c.Nonce)
		for _, spare := range []int{0, 1, 30, 31} {
			wantId(t, c, server, nonce, spare, idElsewhere(t, c, server, nonce, spare))
		}
		for _, spare := range []int{minInt, -32, -1, 32, 33, 256, 1 << 32, maxInt} {
			wantNoId(t, c, server, nonce, spare, "spare")
		}
	}
}

func TestLengthsOfServersAndNonces(t *testing.T) {
	for _, c := range configsOf(2, true, "", letters(16)) {
		for by := -1; by <= 1; by++ {
			for also := -1; also <= 1; also++ {
				if by != 0 || also != 0 {
					wantNoId(t, c, letters(c.Server+by), letters(c.Nonce+also), 0, fmt.Sprint(by, also))
				}
			}
		}
		wantNoId(t, c, "", letters(c.Nonce), 0, "no server")
		wantNoId(t, c, letters(c.Server), "", 0, "no nonce")
		wantNoId(t, c, letters(c.Server+c.Nonce), "", 0, "all of it a server's id")
		wantNoId(t, c, "", letters(c.Server+c.Nonce), 0, "all of it a nonce")
	}
}

func TestLengthsOfIds(t *testing.T) {
	var s steps
	for _, c := range configsOf(6, false, "", s.text(16)) {
		server, nonce := s.text(c.Server), s.text(c.Nonce)
		id := idElsewhere(t, c, server, nonce, 17)
		wantServer(t, c, id, server, nonce)
		wantServer(t, c, id+"x", server, nonce)
		wantServer(t, c, id+letters(5000), server, nonce)
		for n := range len(id) {
			wantNoServer(t, c, id[:n], "too short")
		}
	}
}

// Of the first byte the Slot alone is looked at, also where the length is told there.
func TestFirstBytesOfIds(t *testing.T) {
	var s steps
	for slot := 0; slot <= 6; slot++ {
		for _, told := range []bool{false, true} {
			for _, c := range []impl.IdConfig{
				{Slot: slot, Server: 3, Nonce: 4, Told: told},
				{Slot: slot, Server: 3, Nonce: 4, Told: told, Key: s.text(16)},
				{Slot: slot, Server: 8, Nonce: 8, Told: told, Key: s.text(16)},
			} {
				server, nonce := s.text(c.Server), s.text(c.Nonce)
				id := idElsewhere(t, c, server, nonce, 0)
				for first := range 256 {
					other := string([]byte{byte(first)}) + id[1:]
					if first/32 == slot {
						wantServer(t, c, other, server, nonce)
					} else {
						wantNoServer(t, c, other, "another Slot")
					}
				}
			}
		}
	}
}
