package tests

import (
	"math/big"
	"strings"
	"testing"

	"loop.example/g00206/impl"
)

const noughts = "\x00\x00\x00\x00\x00\x00\x00\x00\x00\x00\x00\x00\x00\x00\x00\x00"

// power is the block that is x to the power of n, for n in 0..127.
func power(n int) string {
	b := []byte(noughts)
	b[n/8] = 0x80 >> (n % 8)
	return string(b)
}

// polynomial has the factor of x^i of a block as its bit i.
func polynomial(block string) *big.Int {
	p := new(big.Int)
	for i := range 128 {
		p.SetBit(p, i, uint(block[i/8]>>(7-i%8)&1))
	}
	return p
}

// longBlock multiplies as on paper, and divides by x^128 + x^7 + x^2 + x + 1 behind it.
func longBlock(a, b string) string {
	other, sum := polynomial(b), new(big.Int)
	for i, p := 0, polynomial(a); i < 128; i++ {
		if p.Bit(i) == 1 {
			sum.Xor(sum, new(big.Int).Lsh(other, uint(i)))
		}
	}
	divisor := new(big.Int).SetBit(big.NewInt(0x87), 128, 1)
	for i := 254; i >= 128; i-- {
		if sum.Bit(i) == 1 {
			sum.Xor(sum, new(big.Int).Lsh(divisor, uint(i-128)))
		}
	}
	rest := []byte(noughts)
	for i := range 128 {
		rest[i/8] |= byte(sum.Bit(i)) << (7 - i%8)
	}
	return string(rest)
}

func mulBlock(t *testing.T, a, b string) string {
	t.Helper()
	s, ok := impl.MulBlock(a, b)
	if len(s) != 16 || !ok {
		t.Fatalf("%x, %x: %x %v", a, b, s, ok)
	}
	return s
}

func ghash(t *testing.T, h, s string) string {
	t.Helper()
	y, ok := impl.Ghash(h, s)
	if len(y) != 16 || !ok {
		t.Fatalf("%x, %d bytes: %x %v", h, len(s), y, ok)
	}
	return y
}

func xorText(t *testing.T, a, b string) string {
	t.Helper()
	s, ok := impl.XorText(a, b)
	if len(s) != len(a) || !ok {
		t.Fatalf("%x, %x: %x %v", a, b, s, ok)
	}
	return s
}

// The texts of AES-GCM's own test cases 2, 3 and 4, with their hashes on the way, and that of RFC 8452.
var hashCases = []struct{ h, text, hash string }{
	{"66e94bd4ef8a2c3b884cfa59ca342b2e", "0388dace60b6a392f328c2b971b2fe78", "5e2ec746917062882c85b0685353deb7"},
	{"66e94bd4ef8a2c3b884cfa59ca342b2e", "0388dace60b6a392f328c2b971b2fe78 00000000000000000000000000000080", "f38cbb1ad69223dcc3457ae5b6b0f885"},
	{"b83b533708bf535d0aa6e52980d53b78", "42831ec2217774244b7221b784d0d49c", "59ed3f2bb1a0aaa07c9f56c6a504647b"},
	{"b83b533708bf535d0aa6e52980d53b78", "42831ec2217774244b7221b784d0d49c e3aa212f2c02a4e035c17e2329aca12e", "b714c9048389afd9f9bc5c1d4378e052"},
	{"b83b533708bf535d0aa6e52980d53b78", "42831ec2217774244b7221b784d0d49c e3aa212f2c02a4e035c17e2329aca12e" +
		"21d514b25466931c7d8f6a5aac84aa05 1ba30b396a0aac973d58e091473f5985 00000000000000000000000000000200", "7f1b32b81b820d02614f8895ac1d4eac"},
	{"b83b533708bf535d0aa6e52980d53b78", "feedfacedeadbeeffeedfacedeadbeef", "ed56aaf8a72d67049fdb9228edba1322"},
	{"b83b533708bf535d0aa6e52980d53b78", "feedfacedeadbeeffeedfacedeadbeef abaddad2000000000000000000000000" +
		"42831ec2217774244b7221b784d0d49c e3aa212f2c02a4e035c17e2329aca12e" +
		"21d514b25466931c7d8f6a5aac84aa05 1ba30b396a0aac973d58e09100000000 00000000000000a000000000000001e0", "698e57f70e6ecc7fd9463b7260a9ae5f"},
	{"25629347589242761d31f826ba4b757b", "4f4f95668c83dfb6401762bb2d01a262 d1a24ddd2721d006bbe45f20d3c9f362", "bd9b3997046731fb96251b91f9c99d7a"},
}

func TestBlockProductsToldElsewhere(t *testing.T) {
	for _, c := range hashCases {
		text := unhex(c.text)
		if len(text) == 16 {
			if s := mulBlock(t, text, unhex(c.h)); s != unhex(c.hash) {
				t.Errorf("%s, %s: %x", c.text, c.h, s)
			}
		}
		if s := ghash(t, unhex(c.h), text); s != unhex(c.hash) {
			t.Errorf("hash of %s: %x", c.text, s)
		}
	}
}

func TestTheHighestBitIsThatOfOne(t *testing.T) {
	if s := mulBlock(t, power(1), power(127)); s != unhex("e1000000000000000000000000000000") {
		t.Errorf("x^128: %x", s)
	}
	if s := mulBlock(t, power(127), power(127)); s != longBlock(power(127), power(127)) {
		t.Errorf("x^254: %x", s)
	}
	var s steps
	for range 300 {
		b := s.text(16)
		if p := mulBlock(t, power(0), b); p != b {
			t.Errorf("1 times %x: %x", b, p)
		}
		if p := mulBlock(t, b, power(0)); p != b {
			t.Errorf("%x times 1: %x", b, p)
		}
		if mulBlock(t, b, noughts) != noughts || mulBlock(t, noughts, b) != noughts {
			t.Errorf("%x times 0", b)
		}
	}
}

func TestProductsOfAllPowers(t *testing.T) {
	for i := range 128 {
		for j := range 128 {
			want := longBlock(power(i), power(j))
			if i+j < 128 {
				want = power(i + j)
			}
			if s := mulBlock(t, power(i), power(j)); s != want {
				t.Fatalf("x^%d times x^%d: %x", i, j, s)
			}
		}
	}
}

func TestProductsDoNotHangOnOrderAndBrackets(t *testing.T) {
	var s steps
	for i := range 1500 {
		a, b, c := s.text(16), s.text(16), s.text(16)
		if i%5 == 0 {
			a, c = power(s.below(128)), strings.Repeat("\xff", 16)
		}
		ab := mulBlock(t, a, b)
		if ab != longBlock(a, b) {
			t.Fatalf("%x, %x: %x", a, b, ab)
		}
		if ba := mulBlock(t, b, a); ba != ab {
			t.Fatalf("%x, %x: %x and %x", a, b, ab, ba)
		}
		first, second := mulBlock(t, ab, c), mulBlock(t, a, mulBlock(t, b, c))
		if first != second {
			t.Fatalf("%x, %x, %x: %x and %x", a, b, c, first, second)
		}
		sum := mulBlock(t, a, xorText(t, b, c))
		if parts := xorText(t, ab, mulBlock(t, a, c)); sum != parts {
			t.Fatalf("%x, %x xor %x: %x and %x", a, b, c, sum, parts)
		}
	}
}

func TestBlocksOfOtherLengths(t *testing.T) {
	for _, n := range []int{0, 1, 8, 15, 17, 31, 32, 1600} {
		for _, c := range [][2]int{{n, 16}, {16, n}, {n, n}} {
			if s, ok := impl.MulBlock(letters(c[0]), letters(c[1])); s != "" || ok {
				t.Errorf("MulBlock, %v: %x %v", c, s, ok)
			}
		}
		for _, size := range []int{0, 16, 17, 3200, 3216} {
			if s, ok := impl.Ghash(letters(n), letters(size)); s != "" || ok {
				t.Errorf("Ghash, %d, %d: %x %v", n, size, s, ok)
			}
		}
	}
}

// ghashByHand takes its products from the long way.
func ghashByHand(h, s string) string {
	y := []byte(noughts)
	for ; s != ""; s = s[16:] {
		for i := range y {
			y[i] ^= s[i]
		}
		y = []byte(longBlock(string(y), h))
	}
	return string(y)
}

func TestGhashOfTheEdges(t *testing.T) {
	var s steps
	h := s.text(16)
	if y := ghash(t, h, ""); y != noughts {
		t.Errorf("of no block: %x", y)
	}
	for _, blocks := range []int{1, 2, 3, 16, 199, 200} {
		text := s.text(16 * blocks)
		if y := ghash(t, h, text); y != ghashByHand(h, text) {
			t.Errorf("%d blocks: %x", blocks, y)
		}
	}
	for _, n := range []int{1, 8, 15, 17, 31, 33, 3184 + 1, 3200 - 1, 3200 + 1, 3200 + 15, 3200 + 16, 3200 + 32, 6400} {
		if y, ok := impl.Ghash(h, letters(n)); y != "" || ok {
			t.Errorf("%d bytes: %x %v", n, y, ok)
		}
	}
}

func TestGhashGoesBlockByBlock(t *testing.T) {
	var s steps
	for range 100 {
		h, text, last := s.text(16), s.text(16*s.below(20)), s.text(16)
		y := ghash(t, h, text)
		want := mulBlock(t, xorText(t, y, last), h)
		if all := ghash(t, h, text+last); all != want {
			t.Fatalf("%x, %x, %x: %x", h, text, last, all)
		}
		if ghash(t, h, strings.Repeat(noughts, 3)+text) != y {
			t.Fatalf("%x, %x: noughts ahead are seen", h, text)
		}
	}
}

func TestGhashGoesWithXor(t *testing.T) {
	var s steps
	for i := range 300 {
		n := 16 * s.below(30)
		if i == 0 {
			n = 3200
		}
		h, a, b := s.text(16), s.text(n), s.text(n)
		both := ghash(t, h, xorText(t, a, b))
		if parts := xorText(t, ghash(t, h, a), ghash(t, h, b)); both != parts {
			t.Fatalf("%x, %x, %x: %x and %x", h, a, b, both, parts)
		}
	}
	if y := ghash(t, s.text(16), strings.Repeat(noughts, 200)); y != noughts {
		t.Errorf("of noughts: %x", y)
	}
	if y := ghash(t, noughts, s.text(320)); y != noughts {
		t.Errorf("by noughts: %x", y)
	}
}

func TestXorOfTexts(t *testing.T) {
	if s := xorText(t, "\x0f\xff\x00\x55", "\xff\xff\x00\xaa"); s != "\xf0\x00\x00\xff" {
		t.Errorf("%x", s)
	}
	if s, ok := impl.XorText("", ""); s != "" || !ok {
		t.Errorf("of empty texts: %x %v", s, ok)
	}
	var s steps
	for _, n := range []int{1, 2, 15, 16, 17, 1500, 1501, 4001, 20000} {
		a, b := s.text(n), s.text(n)
		xored := xorText(t, a, b)
		for i := range n {
			if xored[i] != a[i]^b[i] {
				t.Fatalf("%d bytes: the one at %d", n, i)
			}
		}
		if xorText(t, b, a) != xored || xorText(t, xored, b) != a || xorText(t, a, a) != strings.Repeat("\x00", n) {
			t.Errorf("%d bytes: %x", n, xored)
		}
	}
	for _, c := range [][2]int{{0, 1}, {1, 0}, {15, 16}, {16, 15}, {16, 17}, {1500, 1501}, {1501, 1500}, {0, 20000}} {
		if x, ok := impl.XorText(letters(c[0]), letters(c[1])); x != "" || ok {
			t.Errorf("%v: %x %v", c, x, ok)
		}
	}
}
