package tests

import (
	"testing"

	"loop.example/g00206/impl"
)

// longProduct multiplies as one does by hand: first all of the product, then what is left of it by the polynomial.
func longProduct(a, b int) int {
	sum := 0
	for i := range 8 {
		if b>>i&1 == 1 {
			sum ^= a << i
		}
	}
	for i := 14; i >= 8; i-- {
		if sum>>i&1 == 1 {
			sum ^= 0x11b << (i - 8)
		}
	}
	return sum
}

func TestProductsOfAllBytes(t *testing.T) {
	for a := range 256 {
		for b := range 256 {
			if n := impl.MulGf(a, b); n != longProduct(a, b) {
				t.Fatalf("%d times %d: %d", a, b, n)
			}
			if impl.MulGf(a, b) != impl.MulGf(b, a) {
				t.Fatalf("%d, %d: the order matters", a, b)
			}
		}
	}
}

func TestProductsToldElsewhere(t *testing.T) {
	for _, c := range [][3]int{
		{0x57, 0x13, 0xfe}, {0x57, 0x02, 0xae}, {0x57, 0x04, 0x47}, {0x57, 0x08, 0x8e}, {0x57, 0x10, 0x07},
		{0x80, 0x02, 0x1b}, {0x53, 0xca, 1}, {0xff, 0xff, 0x13}, {1, 0xff, 0xff}, {0, 0xff, 0}, {0, 0, 0},
	} {
		if n := impl.MulGf(c[0], c[1]); n != c[2] {
			t.Errorf("%x times %x: %x, not %x", c[0], c[1], n, c[2])
		}
	}
}

func TestProductsAreThoseOfAField(t *testing.T) {
	var s steps
	for a := range 256 {
		if impl.MulGf(a, 1) != a || impl.MulGf(a, 0) != 0 {
			t.Errorf("%d by 1 and by 0: %d %d", a, impl.MulGf(a, 1), impl.MulGf(a, 0))
		}
		for range 200 {
			b, c := s.below(256), s.below(256)
			if impl.MulGf(a, impl.MulGf(b, c)) != impl.MulGf(impl.MulGf(a, b), c) {
				t.Fatalf("%d, %d, %d: the brackets matter", a, b, c)
			}
			if impl.MulGf(a, b^c) != impl.MulGf(a, b)^impl.MulGf(a, c) {
				t.Fatalf("%d, %d, %d: not a product of a sum", a, b, c)
			}
		}
	}
}

func TestInverses(t *testing.T) {
	if n := impl.InverseGf(0); n != 0 {
		t.Errorf("the inverse of 0: %d", n)
	}
	for a := 1; a < 256; a++ {
		n := impl.InverseGf(a)
		if n < 1 || n > 255 || longProduct(a, n) != 1 || impl.MulGf(a, n) != 1 || impl.InverseGf(n) != a {
			t.Errorf("the inverse of %d: %d", a, n)
		}
	}
}

const subBytesTold = "637c777bf26b6fc53001672bfed7ab76ca82c97dfa5947f0add4a2af9ca472c0" +
	"b7fd9326363ff7cc34a5e5f171d8311504c723c31896059a071280e2eb27b275" +
	"09832c1a1b6e5aa0523bd6b329e32f8453d100ed20fcb15b6acbbe394a4c58cf" +
	"d0efaafb434d338545f9027f503c9fa851a3408f929d38f5bcb6da2110fff3d2" +
	"cd0c13ec5f974417c4a77e3d645d197360814fdc222a908846eeb814de5e0bdb" +
	"e0323a0a4906245cc2d3ac629195e479e7c8376d8dd54ea96c56f4ea657aae08" +
	"ba78252e1ca6b4c6e8dd741f4bbd8b8a703eb5664803f60e613557b986c11d9e" +
	"e1f8981169d98e949b1e87e9ce5528df8ca1890dbfe6426841992d0fb054bb16"

func TestSubBytesToldElsewhere(t *testing.T) {
	for i, want := range []byte(unhex(subBytesTold)) {
		if n := impl.SubByte(i); n != int(want) {
			t.Errorf("SubByte of %x: %x, not %x", i, n, want)
		}
		if n := impl.UnsubByte(int(want)); n != i {
			t.Errorf("UnsubByte of %x: %x, not %x", want, n, i)
		}
	}
}

// bitsOfSub puts the bits together one by one, as the document tells them.
func bitsOfSub(c int) int {
	b := 0
	for i := range 8 {
		bit := 99 >> i & 1
		for _, place := range []int{i, i + 4, i + 5, i + 6, i + 7} {
			bit ^= c >> (place % 8) & 1
		}
		b |= bit << i
	}
	return b
}

func TestSubByteIsUndoneAndLeavesNone(t *testing.T) {
	for b := range 256 {
		n := impl.SubByte(b)
		if n != bitsOfSub(impl.InverseGf(b)) || n == b || n < 0 || n > 255 {
			t.Errorf("SubByte of %d: %d", b, n)
		}
		if back := impl.UnsubByte(n); back != b {
			t.Errorf("SubByte of %d is undone as %d", b, back)
		}
		if again := impl.SubByte(impl.UnsubByte(b)); again != b {
			t.Errorf("UnsubByte of %d is undone as %d", b, again)
		}
	}
}

func TestAnyIntIsAByte(t *testing.T) {
	for _, c := range []struct{ n, as int }{
		{-1, 255}, {-255, 1}, {-256, 0}, {-257, 255}, {256, 0}, {257, 1}, {511, 255}, {0x1253, 0x53}, {-0x1253, 0xad},
		{maxInt, 255}, {maxInt - 3, 252}, {minInt, 0}, {minInt + 7, 7}, {1 << 32, 0}, {1<<40 + 83, 83}, {-1 << 8, 0},
	} {
		for _, b := range []int{0, 1, 2, 3, 0x53, 255} {
			if n := impl.MulGf(c.n, b); n != impl.MulGf(c.as, b) {
				t.Errorf("%d times %d: %d", c.n, b, n)
			}
			if n := impl.MulGf(b, c.n); n != impl.MulGf(b, c.as) {
				t.Errorf("%d times %d: %d", b, c.n, n)
			}
		}
		if n := impl.MulGf(c.n, c.n); n != longProduct(c.as, c.as) {
			t.Errorf("%d by itself: %d", c.n, n)
		}
		if impl.InverseGf(c.n) != impl.InverseGf(c.as) {
			t.Errorf("the inverse of %d: %d", c.n, impl.InverseGf(c.n))
		}
		if impl.SubByte(c.n) != impl.SubByte(c.as) || impl.UnsubByte(c.n) != impl.UnsubByte(c.as) {
			t.Errorf("SubByte and UnsubByte of %d: %d %d", c.n, impl.SubByte(c.n), impl.UnsubByte(c.n))
		}
	}
}

func TestMixColumnToldElsewhere(t *testing.T) {
	for _, c := range [][2]string{
		{"db135345", "8e4da1bc"}, {"f20a225c", "9fdc589d"}, {"01010101", "01010101"}, {"c6c6c6c6", "c6c6c6c6"},
		{"d4d4d4d5", "d5d5d7d6"}, {"2d26314c", "4d7ebdf8"}, {"00000000", "00000000"}, {"01000000", "02010103"},
		{"00010000", "03020101"}, {"00000100", "01030201"}, {"00000001", "01010302"}, {"80000000", "1b80809b"},
	} {
		if s, ok := impl.MixColumn(unhex(c[0])); s != unhex(c[1]) || !ok {
			t.Errorf("%s: %x %v, not %s", c[0], s, ok, c[1])
		}
	}
}

func TestMixColumnIsMadeOfProducts(t *testing.T) {
	var s steps
	for range 2000 {
		in := s.text(4)
		want := make([]byte, 4)
		for i := range want {
			a, b, c, d := int(in[i]), int(in[(i+1)%4]), int(in[(i+2)%4]), int(in[(i+3)%4])
			want[i] = byte(longProduct(2, a) ^ longProduct(3, b) ^ c ^ d)
		}
		if out, ok := impl.MixColumn(in); out != string(want) || !ok {
			t.Fatalf("%x: %x %v, not %x", in, out, ok, want)
		}
	}
}

func TestMixColumnOfOtherLengths(t *testing.T) {
	for _, n := range []int{0, 1, 3, 5, 8, 16, 1500} {
		if s, ok := impl.MixColumn(letters(n)); s != "" || ok {
			t.Errorf("of %d bytes: %x %v", n, s, ok)
		}
	}
}
