package tests

import (
	"crypto/aes"
	"testing"

	"loop.example/g00206/impl"
)

const exampleKey = "2b7e151628aed2a6abf7158809cf4f3c"

func TestRoundKeysToldElsewhere(t *testing.T) {
	for key, behind := range map[string]string{
		exampleKey: "a0fafe17 88542cb1 23a33939 2a6c7605 f2c295f2 7a96b943 5935807a 7359f67f" +
			"3d80477d 4716fe3e 1e237e44 6d7a883b ef44a541 a8525b7f b671253b db0bad00" +
			"d4d1c6f8 7c839d87 caf2b8bc 11f915bc 6d88a37a 110b3efd dbf98641 ca0093fd" +
			"4e54f70e 5f5fc9f3 84a64fb2 4ea6dc4f ead27321 b58dbad2 312bf560 7f8d292f" +
			"ac7766f3 19fadc21 28d12941 575c006e d014f9a8 c9ee2589 e13f0cc8 b6630ca6",
		"00000000000000000000000000000000": "62636363 62636363 62636363 62636363 9b9898c9 f9fbfbaa 9b9898c9 f9fbfbaa" +
			"90973450 696ccffa f2f45733 0b0fac99 ee06da7b 876a1581 759e42b2 7e91ee2b" +
			"7f2e2b88 f8443e09 8dda7cbb f34b9290 ec614b85 1425758c 99ff0937 6ab49ba7" +
			"21751787 3550620b acaf6b3c c61bf09b 0ef90333 3ba96138 97060a04 511dfa9f" +
			"b1d4d8e2 8a7db9da 1d7bb3de 4c664941 b4ef5bcb 3e92e211 23e951cf 6f8f188e",
	} {
		if s, ok := impl.RoundKeys(unhex(key)); s != unhex(key+behind) || !ok {
			t.Errorf("%s: %x %v", key, s, ok)
		}
	}
}

func TestBlocksToldElsewhere(t *testing.T) {
	for _, c := range [][3]string{
		{"000102030405060708090a0b0c0d0e0f", "00112233445566778899aabbccddeeff", "69c4e0d86a7b0430d8cdb78070b4c55a"},
		{exampleKey, "3243f6a8885a308d313198a2e0370734", "3925841d02dc09fbdc118597196a0b32"},
		{exampleKey, "6bc1bee22e409f96e93d7e117393172a", "3ad77bb40d7a3660a89ecaf32466ef97"},
		{exampleKey, "ae2d8a571e03ac9c9eb76fac45af8e51", "f5d3d58503b9699de785895a96fdbaaf"},
		{exampleKey, "30c81c46a35ce411e5fbc1191a0a52ef", "43b1cd7f598ece23881b00e3ed030688"},
		{exampleKey, "f69f2445df4f9b17ad2b417be66c3710", "7b0c785e27e8ad3f8223207104725dd4"},
		{"00000000000000000000000000000000", "00000000000000000000000000000000", "66e94bd4ef8a2c3b884cfa59ca342b2e"},
	} {
		key, plain, covered := unhex(c[0]), unhex(c[1]), unhex(c[2])
		if s, ok := impl.AesBlock(key, plain); s != covered || !ok {
			t.Errorf("%s, %s: %x %v", c[0], c[1], s, ok)
		}
		if s, ok := impl.AesBack(key, covered); s != plain || !ok {
			t.Errorf("back, %s, %s: %x %v", c[0], c[2], s, ok)
		}
	}
}

// libraryBlock is the block as Go's own library has it.
func libraryBlock(t *testing.T, key, block string) string {
	t.Helper()
	c, err := aes.NewCipher([]byte(key))
	if err != nil {
		t.Fatal(err)
	}
	covered := make([]byte, 16)
	c.Encrypt(covered, []byte(block))
	return string(covered)
}

func TestBlocksOfAnyKeys(t *testing.T) {
	var s steps
	for range 2000 {
		key, block := s.text(16), s.text(16)
		covered, ok := impl.AesBlock(key, block)
		if covered != libraryBlock(t, key, block) || !ok {
			t.Fatalf("%x, %x: %x %v", key, block, covered, ok)
		}
		if back, ok := impl.AesBack(key, covered); back != block || !ok {
			t.Fatalf("%x, %x: comes back as %x %v", key, block, back, ok)
		}
		plain, ok := impl.AesBack(key, block)
		if !ok {
			t.Fatalf("%x, %x: not taken back", key, block)
		}
		if again, ok := impl.AesBlock(key, plain); again != block || !ok {
			t.Fatalf("%x, %x: back and forth is %x %v", key, block, again, ok)
		}
	}
}

func TestRoundKeysOfAnyKeys(t *testing.T) {
	var s steps
	for range 500 {
		key := s.text(16)
		all, ok := impl.RoundKeys(key)
		if len(all) != 176 || !ok || all[:16] != key {
			t.Fatalf("%x: %x %v", key, all, ok)
		}
		power := 1
		for i := 4; i < 44; i++ {
			word := []byte(all[4*i-4 : 4*i])
			if i%4 == 0 {
				word = append(word[1:], word[0])
				for j, b := range word {
					word[j] = byte(impl.SubByte(int(b)))
				}
				word[0] ^= byte(power)
				power = longProduct(power, 2)
			}
			for j, b := range word {
				if all[4*i+j] != b^all[4*i-16+j] {
					t.Fatalf("%x: the word at %d of %x", key, i, all)
				}
			}
		}
	}
}

func TestKeysAndBlocksOfOtherLengths(t *testing.T) {
	for _, n := range []int{0, 1, 15, 17, 24, 32, 176, 1600} {
		if s, ok := impl.RoundKeys(letters(n)); s != "" || ok {
			t.Errorf("RoundKeys of %d bytes: %x %v", n, s, ok)
		}
		for _, c := range [][2]int{{n, 16}, {16, n}, {n, n}} {
			key, block := letters(c[0]), letters(c[1])
			if s, ok := impl.AesBlock(key, block); s != "" || ok {
				t.Errorf("AesBlock of %d and %d bytes: %x %v", c[0], c[1], s, ok)
			}
			if s, ok := impl.AesBack(key, block); s != "" || ok {
				t.Errorf("AesBack of %d and %d bytes: %x %v", c[0], c[1], s, ok)
			}
			if s, ok := impl.AesCounter(key, block, "text"); s != "" || ok {
				t.Errorf("AesCounter of %d and %d bytes: %x %v", c[0], c[1], s, ok)
			}
			if s, ok := impl.AesCounter(key, block, ""); s != "" || ok {
				t.Errorf("AesCounter of %d and %d bytes and no text: %x %v", c[0], c[1], s, ok)
			}
		}
	}
}
