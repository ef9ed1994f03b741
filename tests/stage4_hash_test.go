package tests

import (
	"crypto/sha256"
	"encoding/binary"
	"math/big"
	"slices"
	"strings"
	"testing"

	"loop.example/g00206/impl"
)

// firstState is that of the document, told as numbers for tests that begin a hash by hand.
var firstState = []uint32{
	0x6a09e667, 0xbb67ae85, 0x3c6ef372, 0xa54ff53a, 0x510e527f, 0x9b05688c, 0x1f83d9ab, 0x5be0cd19,
}

func libraryHash(s string) string {
	h := sha256.Sum256([]byte(s))
	return string(h[:])
}

// primes are the first n of them.
func primes(n int) []int64 {
	var found []int64
	for p := int64(2); len(found) < n; p++ {
		if !slices.ContainsFunc(found, func(q int64) bool { return p%q == 0 }) {
			found = append(found, p)
		}
	}
	return found
}

// behindPoint tells whether word is the first 32 bits behind the point of the power-th root of p, by whole numbers alone.
func behindPoint(word uint32, p int64, power int64) bool {
	above := new(big.Int).Lsh(big.NewInt(p), uint(32*power))
	raised := func(n int64) *big.Int { return new(big.Int).Exp(big.NewInt(n), big.NewInt(power), nil) }
	for ahead := int64(1); ahead < 20; ahead++ {
		root := ahead<<32 | int64(word)
		if raised(root).Cmp(above) <= 0 && raised(root+1).Cmp(above) > 0 {
			return true
		}
	}
	return false
}

func TestRoundWordsAreCubeRoots(t *testing.T) {
	words := impl.RoundWords()
	if len(words) != 64 {
		t.Fatalf("%d words", len(words))
	}
	for i, p := range primes(64) {
		if !behindPoint(words[i], p, 3) {
			t.Errorf("word %d, of %d: %x", i, p, words[i])
		}
	}
}

func TestFirstStateIsSquareRoots(t *testing.T) {
	for i, p := range primes(8) {
		if !behindPoint(firstState[i], p, 2) {
			t.Errorf("word %d, of %d: %x", i, p, firstState[i])
		}
	}
}

func TestHashesToldElsewhere(t *testing.T) {
	for text, hash := range map[string]string{
		"":    "e3b0c442 98fc1c14 9afbf4c8 996fb924 27ae41e4 649b934c a495991b 7852b855",
		"abc": "ba7816bf 8f01cfea 414140de 5dae2223 b00361a3 96177a9c b410ff61 f20015ad",
		"abcdbcdecdefdefgefghfghighijhijkijkljklmklmnlmnomnopnopq":                                                         "248d6a61 d20638b8 e5c02693 0c3e6039 a33ce459 64ff2167 f6ecedd4 19db06c1",
		"abcdefghbcdefghicdefghijdefghijkefghijklfghijklmghijklmnhijklmnoijklmnopjklmnopqklmnopqrlmnopqrsmnopqrstnopqrstu": "cf5b16a7 78af8380 036ce59e 7b049237 0b249b11 e8f07a51 afac4503 7afee9d1",
	} {
		if s, ok := impl.Sha256(text); s != unhex(hash) || !ok {
			t.Errorf("%q: %x %v", text, s, ok)
		}
	}
}

func TestHashOfEachLength(t *testing.T) {
	var s steps
	text := s.text(impl.MaxHashed + 1)
	for n := range impl.MaxHashed + 1 {
		if n > 300 && n%37 != 0 && n < impl.MaxHashed-130 {
			continue
		}
		if hash, ok := impl.Sha256(text[:n]); hash != libraryHash(text[:n]) || !ok {
			t.Fatalf("%d bytes: %x %v", n, hash, ok)
		}
	}
}

func TestHashOfTheEdges(t *testing.T) {
	for _, n := range []int{0, 1, 54, 55, 56, 57, 63, 64, 65, 119, 120, 128, 3999, 4000} {
		for _, text := range []string{letters(n), strings.Repeat("\x00", n), strings.Repeat("\xff", n)} {
			hash, ok := impl.Sha256(text)
			if hash != libraryHash(text) || len(hash) != impl.HashSize || !ok {
				t.Errorf("%d bytes: %x %v", n, hash, ok)
			}
		}
	}
	for _, n := range []int{4001, 4002, 4064, 8000, 100000} {
		if hash, ok := impl.Sha256(letters(n)); hash != "" || ok {
			t.Errorf("%d bytes: %x %v", n, hash, ok)
		}
	}
}

// ended is the text as the document has it ahead of the blocks: a byte 128, bytes 0, how many bits there were.
func ended(text string) string {
	full := text + "\x80"
	for len(full)%64 != 56 {
		full += "\x00"
	}
	return full + string(binary.BigEndian.AppendUint64(nil, uint64(8*len(text))))
}

// hashByBlocks goes through HashFrom alone.
func hashByBlocks(t *testing.T, text string) string {
	t.Helper()
	state := slices.Clone(firstState)
	for full := ended(text); full != ""; full = full[64:] {
		next, ok := impl.HashFrom(state, full[:64])
		if !ok {
			t.Fatalf("no state behind %x, %x", state, full[:64])
		}
		state = next
	}
	var told []byte
	for _, word := range state {
		told = binary.BigEndian.AppendUint32(told, word)
	}
	return string(told)
}

func TestHashIsThatOfItsBlocks(t *testing.T) {
	var s steps
	for _, n := range []int{0, 1, 55, 56, 63, 64, 65, 119, 120, 127, 128, 500, 1000, 3999, 4000} {
		text := s.text(n)
		if hash, ok := impl.Sha256(text); hash != hashByBlocks(t, text) || !ok {
			t.Errorf("%d bytes: %x %v", n, hash, ok)
		}
	}
	for range 200 {
		text := s.text(s.below(300))
		if hash, ok := impl.Sha256(text); hash != hashByBlocks(t, text) || !ok {
			t.Fatalf("%x: %x %v", text, hash, ok)
		}
	}
}

func TestStateToldElsewhere(t *testing.T) {
	block := ended("abc")
	state, ok := impl.HashFrom(firstState, block)
	want := []uint32{0xba7816bf, 0x8f01cfea, 0x414140de, 0x5dae2223, 0xb00361a3, 0x96177a9c, 0xb410ff61, 0xf20015ad}
	if !slices.Equal(state, want) || !ok {
		t.Errorf("%x %v", state, ok)
	}
	middle := []uint32{0x85e655d6, 0x417a1795, 0x3363376a, 0x624cde5c, 0x76e09589, 0xcac5f811, 0xcc4b32c1, 0xf20e533a}
	two := ended("abcdbcdecdefdefgefghfghighijhijkijkljklmklmnlmnomnopnopq")
	state, ok = impl.HashFrom(firstState, two[:64])
	if !slices.Equal(state, middle) || !ok {
		t.Errorf("%x %v", state, ok)
	}
}

// stateByWords is HashFrom once more, with whole numbers that are cut to 32 bits and all sixty-four steps in a list.
func stateByWords(state []uint32, block string) []uint32 {
	cut := func(n uint64) uint64 { return n & 0xffffffff }
	right := func(n uint64, by uint) uint64 { return cut(n>>by | n<<(32-by)) }
	var w []uint64
	for i := range 64 {
		if i < 16 {
			w = append(w, uint64(binary.BigEndian.Uint32([]byte(block[4*i:]))))
			continue
		}
		s0 := right(w[i-15], 7) ^ right(w[i-15], 18) ^ w[i-15]>>3
		s1 := right(w[i-2], 17) ^ right(w[i-2], 19) ^ w[i-2]>>10
		w = append(w, cut(w[i-16]+s0+w[i-7]+s1))
	}
	var v [8]uint64
	for i, word := range state {
		v[i] = uint64(word)
	}
	for i, word := range impl.RoundWords() {
		t1 := v[7] + (right(v[4], 6) ^ right(v[4], 11) ^ right(v[4], 25)) + (v[4]&v[5] ^ cut(^v[4])&v[6]) + uint64(word) + w[i]
		t2 := (right(v[0], 2) ^ right(v[0], 13) ^ right(v[0], 22)) + (v[0]&v[1] ^ v[0]&v[2] ^ v[1]&v[2])
		v = [8]uint64{cut(t1 + t2), v[0], v[1], v[2], cut(v[3] + t1), v[4], v[5], v[6]}
	}
	var next []uint32
	for i, word := range state {
		next = append(next, uint32(cut(uint64(word)+v[i])))
	}
	return next
}

func TestStatesOfAnyWords(t *testing.T) {
	var s steps
	states := [][]uint32{make([]uint32, 8), slices.Repeat([]uint32{0xffffffff}, 8), firstState}
	for range 300 {
		var state []uint32
		for range 8 {
			state = append(state, uint32(s.below(1<<31))<<1|uint32(s.below(2)))
		}
		states = append(states, state)
	}
	for _, state := range states {
		for _, block := range []string{strings.Repeat("\x00", 64), strings.Repeat("\xff", 64), s.text(64)} {
			if next, ok := impl.HashFrom(state, block); !slices.Equal(next, stateByWords(state, block)) || !ok {
				t.Fatalf("%x, %x: %x %v", state, block, next, ok)
			}
		}
	}
}

func TestStatesNotAsSaid(t *testing.T) {
	for _, words := range []int{0, 1, 4, 7, 9, 16, 64} {
		if next, ok := impl.HashFrom(make([]uint32, words), letters(64)); len(next) != 0 || ok {
			t.Errorf("%d words: %x %v", words, next, ok)
		}
	}
	if next, ok := impl.HashFrom(nil, letters(64)); len(next) != 0 || ok {
		t.Errorf("nil: %x %v", next, ok)
	}
	for _, n := range []int{0, 1, 32, 55, 63, 65, 127, 128, 4000} {
		if next, ok := impl.HashFrom(firstState, letters(n)); len(next) != 0 || ok {
			t.Errorf("%d bytes: %x %v", n, next, ok)
		}
	}
	// Eight words behind the length of a list are none of its words.
	if next, ok := impl.HashFrom(slices.Clone(firstState)[:7], letters(64)); len(next) != 0 || ok {
		t.Errorf("seven of eight: %x %v", next, ok)
	}
}
