package tests

import (
	"testing"

	"loop.example/g00206/impl"
)

func TestVarintOfEachSize(t *testing.T) {
	for _, c := range []struct {
		n int
		s string
	}{
		{0, "\x00"},
		{1, "\x01"},
		{37, "\x25"},
		{63, "\x3f"},
		{64, "\x40\x40"},
		{15293, "\x7b\xbd"},
		{16383, "\x7f\xff"},
		{16384, "\x80\x00\x40\x00"},
		{494878333, "\x9d\x7f\x3e\x7d"},
		{1073741823, "\xbf\xff\xff\xff"},
		{1073741824, "\xc0\x00\x00\x00\x40\x00\x00\x00"},
		{151288809941952652, "\xc2\x19\x7c\x5e\xff\x14\xe8\x8c"},
		{impl.MaxVarint - 1, "\xff\xff\xff\xff\xff\xff\xff\xfe"},
		{impl.MaxVarint, "\xff\xff\xff\xff\xff\xff\xff\xff"},
	} {
		if s, ok := impl.VarintBytes(c.n); s != c.s || !ok {
			t.Errorf("VarintBytes(%d) = %x %v", c.n, s, ok)
		}
		if size, ok := impl.VarintSize(c.n); size != len(c.s) || !ok {
			t.Errorf("VarintSize(%d) = %d %v", c.n, size, ok)
		}
		for _, behind := range []string{"", "\x00", "\xff\xff"} {
			if n, took := impl.TakeVarint(c.s + behind); n != c.n || took != len(c.s) {
				t.Errorf("TakeVarint(%x) = %d %d", c.s+behind, n, took)
			}
		}
	}
}

func TestVarintBeyondLimits(t *testing.T) {
	for _, n := range []int{-1, -64, minInt, impl.MaxVarint + 1, maxInt} {
		if s, ok := impl.VarintBytes(n); s != "" || ok {
			t.Errorf("VarintBytes(%d) = %x %v", n, s, ok)
		}
		if size, ok := impl.VarintSize(n); size != 0 || ok {
			t.Errorf("VarintSize(%d) = %d %v", n, size, ok)
		}
	}
}

func TestVarintLongerThanNeeded(t *testing.T) {
	for _, n := range []int{0, 1, 37, 63} {
		for _, size := range []int{1, 2, 4, 8} {
			if m, took := impl.TakeVarint(varint(n, size)); m != n || took != size {
				t.Errorf("%d in %d bytes: %d %d", n, size, m, took)
			}
		}
	}
	if m, took := impl.TakeVarint(varint(1073741823, 8)); m != 1073741823 || took != 8 {
		t.Error(m, took)
	}
}

func TestVarintCutOff(t *testing.T) {
	for _, size := range []int{1, 2, 4, 8} {
		s := varint(37, size)
		for i := range len(s) {
			if n, took := impl.TakeVarint(s[:i]); n != 0 || took != 0 {
				t.Errorf("%x: %d %d", s[:i], n, took)
			}
		}
	}
}

func TestVarintAllTwoByteNumbers(t *testing.T) {
	for n := range 20000 {
		s, ok := impl.VarintBytes(n)
		m, took := impl.TakeVarint(s)
		if !ok || m != n || took != len(s) {
			t.Fatal(n, m, took, ok)
		}
		if want := varint(n, len(s)); s != want {
			t.Fatalf("%d: %x, not %x", n, s, want)
		}
	}
}
