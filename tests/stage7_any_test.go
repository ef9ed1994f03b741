package tests

import (
	"testing"

	"loop.example/g00206/impl"
)

// someConfig is nearly always good.
func (s *steps) someConfig() impl.IdConfig {
	sizes := lengthsOfIds()
	size := sizes[s.below(len(sizes))]
	c := impl.IdConfig{Slot: s.below(7), Server: size[0], Nonce: size[1], Key: s.text(16 * s.below(2)), Told: s.below(2) == 0}
	switch s.below(12) {
	case 0:
		c.Slot = s.below(12) - 3
	case 1:
		c.Server = s.below(24) - 2
	case 2:
		c.Nonce = s.below(24) - 2
	case 3:
		c.Key = s.text(s.below(40))
	}
	return c
}

func configTold(c impl.IdConfig) bool {
	return c.Slot >= 0 && c.Slot <= 6 && c.Server >= 1 && c.Server <= 15 && c.Nonce >= 4 && c.Nonce <= 18 &&
		c.Server+c.Nonce <= 19 && (len(c.Key) == 0 || len(c.Key) == 16)
}

func TestIdsAtAnyArguments(t *testing.T) {
	var s steps
	made := 0
	for range 8000 {
		c := s.someConfig()
		server, nonce, spare := s.text(max(c.Server, 0)), s.text(max(c.Nonce, 0)), s.below(32)
		switch s.below(6) {
		case 0:
			server = s.text(s.below(22))
		case 1:
			nonce = s.text(s.below(22))
		case 2:
			spare = s.below(100) - 40
		}
		good := configTold(c)
		if impl.GoodConfig(c) != good {
			t.Fatalf("%+v", c)
		}
		if !good || len(server) != c.Server || len(nonce) != c.Nonce || spare < 0 || spare > 31 {
			wantNoId(t, c, server, nonce, spare, "any arguments")
			continue
		}
		made++
		wantId(t, c, server, nonce, spare, idElsewhere(t, c, server, nonce, spare))
	}
	if made < 3000 {
		t.Error(made)
	}
}

func TestDecodeAnyBytes(t *testing.T) {
	var s steps
	for range 8000 {
		c, id := s.someConfig(), s.text(s.below(25))
		if len(id) > 0 && s.below(3) > 0 {
			id = string([]byte{byte(c.Slot<<5 | s.below(32))}) + id[1:]
		}
		if !configTold(c) || len(id) < 1+c.Server+c.Nonce || int(id[0]>>5) != c.Slot {
			wantNoServer(t, c, id, "any bytes")
			continue
		}
		server, nonce, ok := impl.DecodeId(c, id)
		if !ok || len(server) != c.Server || len(nonce) != c.Nonce {
			t.Fatalf("%+v, %x: %x %x %v", c, id, server, nonce, ok)
		}
		cut := c
		cut.Told = false
		if again := idElsewhere(t, cut, server, nonce, int(id[0]&31)); again != id[:1+c.Server+c.Nonce] {
			t.Fatalf("%+v, %x: %x", c, id, again)
		}
	}
}

func TestIdsWriteIntoNothing(t *testing.T) {
	var s steps
	for _, key := range []int{0, 16} {
		for _, size := range lengthsOfIds() {
			// All arguments lie in one memory, so that what is written behind one of them shows in the next.
			all := []byte(s.text(key + size[0] + size[1] + 8))
			kept := string(all)
			one := bare(all)
			c := impl.IdConfig{Slot: s.below(7), Server: size[0], Nonce: size[1], Key: one[:key]}
			server, nonce := one[key:key+size[0]], one[key+size[0]:key+size[0]+size[1]]
			id, ok := impl.EncodeId(c, server, nonce, 3)
			same, _ := impl.EncodeId(c, server, nonce, 3)
			if !ok || id != same || string(all) != kept {
				t.Fatalf("%x and then %x, %v", id, same, ok)
			}
			wantNew(t, id, one)
			given := []byte(id + "behind")
			for _, text := range []string{bare(given), bare(given)[:len(id)]} {
				a, b, ok := impl.DecodeId(c, text)
				if !ok || a != server || b != nonce || string(given) != id+"behind" || string(all) != kept {
					t.Fatalf("%x and %x, %v", a, b, ok)
				}
				wantNew(t, a, b, one, bare(given))
				wantNew(t, b, a, one, bare(given))
			}
			impl.DecodeId(c, bare(given)[:len(id)-1])
			impl.EncodeId(c, server, nonce, 32)
			if string(given) != id+"behind" || string(all) != kept {
				t.Fatal("an argument is changed")
			}
		}
	}
}

func TestFourPassesWriteIntoNothing(t *testing.T) {
	var s steps
	for range 400 {
		all := []byte(s.text(16 + 24))
		kept := string(all)
		one := bare(all)
		key, text, half := one[:16], one[16:16+5+s.below(15)], one[16:16+s.below(11)]
		for _, f := range []func(string, string) (string, bool){impl.FourPasses, impl.FourBack} {
			answer, ok := f(key, text)
			same, _ := f(key, text)
			if !ok || answer != same || string(all) != kept {
				t.Fatalf("%x and then %x, %v", answer, same, ok)
			}
			wantNew(t, answer, one)
		}
		b, ok := impl.HalfBlock(half, 5+s.below(15), 1+s.below(4))
		if !ok || string(all) != kept {
			t.Fatalf("%x %v", b, ok)
		}
		wantNew(t, b, one)
	}
}

// The key and the text may be the same memory.
func TestFourPassesOfTheirKey(t *testing.T) {
	s := letters(16)
	wantFour(t, s, s, fourElsewhere(t, sidedBlock, s, s))
	wantFour(t, s, s[:7], fourElsewhere(t, sidedBlock, s, s[:7]))
}

func TestFourPassesAtAnyLengths(t *testing.T) {
	var s steps
	for range 5000 {
		key, text := s.text(14+s.below(5)), s.text(s.below(30))
		if len(key) != 16 || len(text) < 5 || len(text) > 19 {
			wantNoFour(t, key, text)
			continue
		}
		wantFour(t, key, text, fourElsewhere(t, sidedBlock, key, text))
	}
}

func TestHalfBlockAtAnyArguments(t *testing.T) {
	var s steps
	for range 20000 {
		half, size, pass := s.text(s.below(14)), s.below(24)-2, s.below(9)-2
		if len(half) > 10 || size < 5 || size > 19 || pass < 1 || pass > 4 {
			wantNoHalfBlock(t, half, size, pass)
			continue
		}
		wantHalfBlock(t, half, size, pass, sidedBlock(half, size, pass))
	}
}
