package tests

import (
	"testing"

	"loop.example/g00206/impl"
)

// numberElsewhere is the lowest bytes of n, told apart from the program.
func numberElsewhere(n int, size int) string {
	b := make([]byte, 8)
	for i := range b {
		b[7-i] = byte(n)
		n >>= 8
	}
	return string(b[8-size:])
}

// numberFrom is the number that bytes are, the highest one first.
func numberFrom(s string) int {
	n := 0
	for _, b := range []byte(s) {
		n = 256*n + int(b)
	}
	return n
}

// nearestNumber looks for the one number that ends in low and lies less than half a width behind next, or at most half a width ahead; where that is no number, the next one that is.
func nearestNumber(largest, low, size int) int {
	next, wide := largest+1, 1<<(8*size)
	n := low + (next-low)/wide*wide
	for n <= next-wide/2 {
		n += wide
	}
	for n > next+wide/2 {
		n -= wide
	}
	if n < 0 {
		n += wide
	}
	if n > impl.MaxNumber {
		n -= wide
	}
	return n
}

func wantKeys(t *testing.T, secret, key, nonce, cover string) {
	t.Helper()
	want := impl.Keys{Key: key, Nonce: nonce, Cover: cover}
	if k, ok := impl.KeysOf(secret); k != want || !ok {
		t.Errorf("secret of %d bytes: %x %v, not %x", len(secret), k, ok, want)
	}
}

func wantNumberBytes(t *testing.T, n, acked int, want string) {
	t.Helper()
	if s, ok := impl.NumberBytes(n, acked); s != want || !ok {
		t.Errorf("%d, %d: %x %v, not %x", n, acked, s, ok, want)
	}
}

func wantNoNumberBytes(t *testing.T, n, acked int) {
	t.Helper()
	if s, ok := impl.NumberBytes(n, acked); s != "" || ok {
		t.Errorf("%d, %d: %x %v", n, acked, s, ok)
	}
}

func wantNumber(t *testing.T, largest, low, size, want int) {
	t.Helper()
	if n, ok := impl.NumberOf(largest, low, size); n != want || !ok {
		t.Errorf("%d, %d, %d: %d %v, not %d", largest, low, size, n, ok, want)
	}
}

func wantNoNumber(t *testing.T, largest, low, size int) {
	t.Helper()
	if n, ok := impl.NumberOf(largest, low, size); n != 0 || ok {
		t.Errorf("%d, %d, %d: %d %v", largest, low, size, n, ok)
	}
}

func TestConstantsOfPackets(t *testing.T) {
	if impl.MaxNumber != 1<<62-1 || impl.SampleAt != 4 {
		t.Error(impl.MaxNumber, impl.SampleAt)
	}
}

// RFC 9001, A.1 and A.5.
func TestKeysToldElsewhere(t *testing.T) {
	client, server, _ := impl.InitialSecrets(unhex("8394c8f03e515708"))
	wantKeys(t, client, unhex("1f369613dd76d5467730efcbe3b1a22d"), unhex("fa044b2f42a3fd3b46fb255c"), unhex("9f50449e04a0e810283a1e9933adedd2"))
	wantKeys(t, server, unhex("cf3a5331653c364c88f0f379b6067e37"), unhex("0ac1493ca1905853b0bba03e"), unhex("c206b8d9b9f0f37644430b490eeaa314"))
	secret := unhex("9ac312a7f877468ebe69422748ad00a15443f18203a07d6060f688f30f21632b")
	if k, ok := impl.KeysOf(secret); k.Nonce != unhex("e0459b3474bdd0e44a41c144") || !ok {
		t.Errorf("%x %v", k, ok)
	}
	if next, ok := impl.NextSecret(secret); next != unhex("1223504755036d556342ee9361d253421a826c9ecdf3c7148684b36b714881f9") || !ok {
		t.Errorf("%x %v", next, ok)
	}
}

func TestKeysOfTheEdges(t *testing.T) {
	for _, n := range []int{0, 1, 31, 32, 33, 64, 65, 499, 500} {
		secret := letters(n)
		wantKeys(t, secret,
			libraryExpand(t, secret, labelInfo("quic key", 16), 16),
			libraryExpand(t, secret, labelInfo("quic iv", 12), 12),
			libraryExpand(t, secret, labelInfo("quic hp", 16), 16))
		if next, ok := impl.NextSecret(secret); next != libraryExpand(t, secret, labelInfo("quic ku", 32), 32) || !ok {
			t.Errorf("%d: %x %v", n, next, ok)
		}
	}
	for _, n := range []int{501, 502, 2000, 5000} {
		if k, ok := impl.KeysOf(letters(n)); k != (impl.Keys{}) || ok {
			t.Errorf("%d: %x %v", n, k, ok)
		}
		if next, ok := impl.NextSecret(letters(n)); next != "" || ok {
			t.Errorf("%d: %x %v", n, next, ok)
		}
	}
}

// RFC 9000, A.2 and A.3.
func TestNumbersToldElsewhere(t *testing.T) {
	wantNumberBytes(t, 0xac5c02, 0xabe8b3, "\x5c\x02")
	wantNumberBytes(t, 0xace8fe, 0xabe8b3, "\xac\xe8\xfe")
	wantNumber(t, 0xa82f30ea, 0x9b32, 2, 0xa82f9b32)
}

func TestNumberBytesOfEachDistance(t *testing.T) {
	for _, acked := range []int{-1, 0, 1, 200, 1 << 20, 1<<32 - 1, 1<<40 + 77, impl.MaxNumber - 1<<31} {
		least := 1
		for size := 1; size <= 4; size++ {
			most := 1<<(8*size-1) - 1
			for _, d := range []int{least, least + 1, (least + most) / 2, most - 1, most} {
				n := acked + d
				wantNumberBytes(t, n, acked, numberElsewhere(n, size))
			}
			least = most + 1
		}
		for _, d := range []int{least, least + 1, 2 * least} {
			wantNoNumberBytes(t, acked+d, acked)
		}
	}
}

func TestNumberBytesOfTheEdges(t *testing.T) {
	const most = impl.MaxNumber
	wantNumberBytes(t, 0, -1, "\x00")
	wantNumberBytes(t, 1, -1, "\x01")
	wantNumberBytes(t, 1, 0, "\x01")
	wantNumberBytes(t, 126, -1, "\x7e")
	wantNumberBytes(t, 127, -1, "\x00\x7f")
	wantNumberBytes(t, 256, 255, "\x00")
	wantNumberBytes(t, 1<<31-2, -1, "\x7f\xff\xff\xfe")
	wantNumberBytes(t, most, most-1, "\xff")
	wantNumberBytes(t, most, most-127, "\xff")
	wantNumberBytes(t, most, most-128, "\xff\xff")
	wantNumberBytes(t, most, most-(1<<31-1), "\xff\xff\xff\xff")
	for _, c := range [][2]int{
		{-1, -2}, {-1, -1}, {-1, 0}, {0, -2}, {0, 0}, {0, 1}, {5, -2}, {5, 5}, {5, 6}, {1<<31 - 1, -1},
		{most, most - 1<<31}, {most, -1}, {most, most}, {most + 1, most}, {most + 1, most - 1}, {most + 1, -1},
		{minInt, minInt}, {minInt, -1}, {minInt, maxInt}, {maxInt, minInt}, {maxInt, maxInt}, {maxInt, maxInt - 1}, {5, minInt}, {5, maxInt},
	} {
		wantNoNumberBytes(t, c[0], c[1])
	}
}

// What lies just half a width behind is taken for what lies just half a width ahead.
func TestNumbersHalfAWidthAway(t *testing.T) {
	for size := 1; size <= 4; size++ {
		wide := 1 << (8 * size)
		for _, next := range []int{3*wide + wide - 20, 3*wide + 6, 3 * wide, 3*wide + wide/2, 3*wide + wide/2 - 1, 4*wide - 1, 1<<61 + 5} {
			for _, away := range []int{-wide/2 + 1, -wide/2 + 2, -1, 0, 1, wide/2 - 1, wide / 2} {
				n := next + away
				wantNumber(t, next-1, n%wide, size, n)
			}
			wantNumber(t, next-1, (next-wide/2)%wide, size, next+wide/2)
			wantNumber(t, next-1, (next-wide/2-1)%wide, size, next+wide/2-1)
			wantNumber(t, next-1, (next+wide/2+1)%wide, size, next-wide/2+1)
		}
	}
}

func TestNumbersNearTheEnds(t *testing.T) {
	const most = impl.MaxNumber
	for size := 1; size <= 4; size++ {
		wide := 1 << (8 * size)
		// There is nothing below 0, however far ahead the number lies.
		for _, largest := range []int{-1, 0, wide/2 - 2} {
			for _, low := range []int{0, 1, wide / 2, wide/2 + 1, wide - 1} {
				wantNumber(t, largest, low, size, low)
			}
		}
		wantNumber(t, wide/2-1, 0, size, wide)
		wantNumber(t, wide/2, 1, size, wide+1)
		wantNumber(t, wide-1, wide-1, size, wide-1)
		wantNumber(t, wide-1, wide/2+1, size, wide/2+1)
		wantNumber(t, wide-1, wide/2, size, wide+wide/2)
		wantNumber(t, wide, wide-1, size, wide-1)
		// Nor is there anything above MaxNumber.
		wantNumber(t, most-1, wide-1, size, most)
		wantNumber(t, most-1, 0, size, most-wide+1)
		wantNumber(t, most-1, wide/2-1, size, most-wide/2)
		wantNumber(t, most-1, wide/2, size, most-wide/2+1)
		wantNumber(t, most-wide/2-1, 0, size, most-wide+1)
		wantNumber(t, most-wide-1, 0, size, most-wide+1)
		wantNumber(t, most-wide-1, wide-1, size, most-wide)
		wantNumber(t, most-wide-1, wide/2-2, size, most-wide+wide/2-1)
	}
}

func TestNumbersOfAnyLargest(t *testing.T) {
	var s steps
	for range 60000 {
		size := 1 + s.below(4)
		wide := 1 << (8 * size)
		low := numberFrom(s.text(size))
		largest := []int{
			s.below(3*wide) - 1,
			impl.MaxNumber - 1 - s.below(3*wide%(1<<31)+1),
			numberFrom(s.text(7)),
			(1+s.below(1000))*wide + s.below(9) - 5,
			(1+s.below(1000))*wide + wide/2 + s.below(9) - 5,
		}[s.below(5)]
		wantNumber(t, largest, low, size, nearestNumber(largest, low, size))
	}
}

func TestNumbersRefused(t *testing.T) {
	const most = impl.MaxNumber
	for size := 1; size <= 4; size++ {
		wide := 1 << (8 * size)
		for _, largest := range []int{minInt, -3, -2, most, most + 1, maxInt} {
			wantNoNumber(t, largest, 0, size)
			wantNoNumber(t, largest, wide-1, size)
		}
		for _, low := range []int{minInt, -wide, -1, wide, wide + 1, maxInt} {
			wantNoNumber(t, -1, low, size)
			wantNoNumber(t, 1000, low, size)
			wantNoNumber(t, most-1, low, size)
		}
		wantNumber(t, -1, 0, size, 0)
		wantNumber(t, -1, wide-1, size, wide-1)
		wantNumber(t, most-1, wide-1, size, most)
	}
	for _, size := range []int{minInt, -8, -1, 0, 5, 6, 8, 64, 256 + 1, 1<<32 + 1, maxInt} {
		wantNoNumber(t, -1, 0, size)
		wantNoNumber(t, 1000, 3, size)
		wantNoNumber(t, most-1, 0, size)
	}
}

func wantBack(t *testing.T, n, acked, largest int) {
	t.Helper()
	s, ok := impl.NumberBytes(n, acked)
	if !ok {
		t.Fatalf("%d, %d: no bytes", n, acked)
	}
	if back, ok := impl.NumberOf(largest, numberFrom(s), len(s)); back != n || !ok {
		t.Fatalf("%d, acknowledged %d, largest %d, as %x: %d %v", n, acked, largest, s, back, ok)
	}
}

func TestNumbersComeBack(t *testing.T) {
	var s steps
	for range 60000 {
		d := 1 + s.below(1<<(1+s.below(31))-1)
		acked := []int{-1, s.below(1 << 20), numberFrom(s.text(7)), impl.MaxNumber - d, 1<<(8*(1+s.below(7))) - 1 - s.below(2)}[s.below(5)]
		n := acked + d
		for _, largest := range []int{acked, n - 1, acked + s.below(d), acked + (d-1)/2} {
			wantBack(t, n, acked, largest)
		}
	}
}

func TestNumbersComeBackAtTheEdges(t *testing.T) {
	for size := 1; size <= 4; size++ {
		for _, d := range []int{1<<(8*size-1) - 1, 1<<(8*size-1) - 2, max(1<<(8*size-1)/256, 1)} {
			for _, acked := range []int{-1, 0, 254, 255, 256, 1<<16 - 1, 1<<24 - 2, 1<<32 - 1, 1 << 61, impl.MaxNumber - d} {
				wantBack(t, acked+d, acked, acked)
				wantBack(t, acked+d, acked, acked+d-1)
				wantBack(t, acked+d, acked, acked+d/2)
			}
		}
	}
	for n := range 400 {
		for acked := -1; acked < n; acked++ {
			wantBack(t, n, acked, acked)
			wantBack(t, n, acked, acked+(n-1-acked)/2)
			wantBack(t, n, acked, n-1)
		}
	}
}

// RFC 9001, A.2 and A.3.
func TestCoversToldElsewhere(t *testing.T) {
	for _, c := range [][3]string{
		{"9f50449e04a0e810283a1e9933adedd2", "d1b1c98dd7689fb8ec11d242b123dc9b", "437b9aec36"},
		{"c206b8d9b9f0f37644430b490eeaa314", "2cd0991cd25b0aac406a5816b6394100", "2ec0d8356a"},
	} {
		if m, ok := impl.CoverOf(unhex(c[0]), unhex(c[1])); m != unhex(c[2]) || !ok {
			t.Errorf("%x %v, not %s", m, ok, c[2])
		}
	}
}

func TestCoversOfAnyLengths(t *testing.T) {
	var s steps
	for _, n := range []int{0, 1, 15, 16, 17, 32} {
		for _, m := range []int{0, 1, 15, 16, 17, 32} {
			cover, sample := s.text(n), s.text(m)
			want := ""
			if n == 16 && m == 16 {
				want = libraryBlock(t, cover, sample)[:5]
			}
			if got, ok := impl.CoverOf(cover, sample); got != want || ok != (want != "") {
				t.Errorf("%d, %d: %x %v, not %x", n, m, got, ok, want)
			}
		}
	}
	for range 300 {
		cover, sample := s.text(16), s.text(16)
		if got, ok := impl.CoverOf(cover, sample); got != libraryBlock(t, cover, sample)[:5] || !ok {
			t.Errorf("%x %v", got, ok)
		}
	}
}

func wantNonce(t *testing.T, nonce string, n int, want string) {
	t.Helper()
	if got, ok := impl.NonceOf(nonce, n); got != want || ok != (want != "") {
		t.Errorf("%x, %d: %x %v, not %x", nonce, n, got, ok, want)
	}
}

func TestNonces(t *testing.T) {
	const most = impl.MaxNumber
	iv := unhex("e0459b3474bdd0e44a41c144")
	wantNonce(t, iv, 654360564, unhex("e0459b3474bdd0e46d417eb0")) // RFC 9001, A.5
	wantNonce(t, iv, 0, iv)
	wantNonce(t, iv, 1, unhex("e0459b3474bdd0e44a41c145"))
	wantNonce(t, iv, most, unhex("e0459b344b422f1bb5be3ebb"))
	wantNonce(t, noughts[:12], most, "\x00\x00\x00\x00\x3f\xff\xff\xff\xff\xff\xff\xff")
	wantNonce(t, noughts[:12], 0x0102030405060708, "\x00\x00\x00\x00\x01\x02\x03\x04\x05\x06\x07\x08")
	for _, n := range []int{minInt, -2, -1, most + 1, maxInt} {
		wantNonce(t, iv, n, "")
	}
	for _, size := range []int{0, 1, 7, 8, 11, 13, 16, 24} {
		wantNonce(t, letters(size), 0, "")
		wantNonce(t, letters(size), 77, "")
		wantNonce(t, letters(size), -1, "")
	}
}
