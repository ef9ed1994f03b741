package tests

import (
	"strings"
	"testing"

	"loop.example/g00206/impl"
)

// mostTold is how a carried stream's greatest number is told: as the quarter of it.
const mostTold = 1152921504606846975

func carried(stream, context int, data string) impl.Carried {
	return impl.Carried{Stream: stream, Context: context, Data: data}
}

// wantCarried holds what is carried as these bytes, both ways.
func wantCarried(t *testing.T, c impl.Carried, want string) {
	t.Helper()
	if !impl.GoodCarried(c) {
		t.Errorf("%.200v: not good", c)
	}
	if s, ok := impl.CarriedBytes(c); s != want || !ok {
		t.Errorf("%.200v: %x %v, not %x", c, s, ok, want)
	}
	wantReadCarried(t, want, c)
}

func wantNoCarried(t *testing.T, c impl.Carried, why string) {
	t.Helper()
	if impl.GoodCarried(c) {
		t.Errorf("%s: %.200v is good", why, c)
	}
	if s, ok := impl.CarriedBytes(c); s != "" || ok {
		t.Errorf("%s: %.200v: %x %v", why, c, s, ok)
	}
}

func wantReadCarried(t *testing.T, s string, want impl.Carried) {
	t.Helper()
	if c, ok := impl.ReadCarried(s); c != want || !ok {
		t.Errorf("%x: %.200v %v, not %.200v", s, c, ok, want)
	}
}

func wantNoReadCarried(t *testing.T, s, why string) {
	t.Helper()
	if c, ok := impl.ReadCarried(s); c != (impl.Carried{}) || ok {
		t.Errorf("%s: %.200x: %.200v %v", why, s, c, ok)
	}
}

func TestCarriedKnown(t *testing.T) {
	for _, c := range []struct {
		stream, context int
		data, bytes     string
	}{
		{0, 0, "", "00 00"},
		{0, 0, "x", "00 00 78"},
		{4, 0, "x", "01 00 78"},
		{44, 0, "x", "0b 00 78"},
		{44, 2, "hi", "0b 02 6869"},
		{8, 1, "\x00", "02 01 00"},
		{252, 63, "a", "3f 3f 61"},
		{256, 64, "a", "4040 4040 61"},
		{65532, 16383, "a", "7fff 7fff 61"},
		{65536, 16384, "a", "80004000 80004000 61"},
		{4294967292, 1073741823, "a", "bfffffff bfffffff 61"},
		{4294967296, 1073741824, "a", "c000000040000000 c000000040000000 61"},
		{mostVarint - 3, mostVarint, "", "cfffffffffffffff ffffffffffffffff"},
		{mostVarint - 7, mostVarint - 1, "\xff", "cffffffffffffffe fffffffffffffffe ff"},
		{0, mostVarint, "a", "00 ffffffffffffffff 61"},
		{mostVarint - 3, 0, "a", "cfffffffffffffff 00 61"},
	} {
		wantCarried(t, carried(c.stream, c.context, c.data), unhex(c.bytes))
	}
}

func TestCarriedOfLengths(t *testing.T) {
	for size := range 1201 {
		data := letters(size)
		wantCarried(t, carried(8, 3, data), "\x02\x03"+data)
		wantCarried(t, carried(mostVarint-3, mostVarint, data), wide(mostTold, mostVarint)+data)
	}
	for _, size := range []int{1201, 1202, 1300, 1484, 1498, 1499, 1500, 2400, 20000} {
		for _, c := range []impl.Carried{carried(0, 0, ""), carried(8, 3, ""), carried(mostVarint-3, mostVarint, "")} {
			c.Data = letters(size)
			wantNoCarried(t, c, "too much data")
		}
	}
}

func TestCarriedOfEachWrongField(t *testing.T) {
	streams := []int{-1, -2, -3, -4, -8, minInt, minInt + 4, maxInt, maxInt - 3, mostVarint - 2, mostVarint - 1, mostVarint, mostVarint + 1, mostVarint + 5, 1, 2, 3, 5, 6, 7, 253, 254, 255, mostVarint - 4, mostVarint - 5, mostVarint - 6}
	contexts := []int{-1, -2, -64, minInt, minInt + 1, mostVarint + 1, mostVarint + 2, maxInt - 1, maxInt}
	for _, good := range []impl.Carried{carried(0, 0, ""), carried(44, 3, "x"), carried(mostVarint-3, mostVarint, letters(1200))} {
		if !impl.GoodCarried(good) {
			t.Errorf("%.50v", good)
		}
		for _, stream := range streams {
			wantNoCarried(t, carried(stream, good.Context, good.Data), "stream")
		}
		for _, context := range contexts {
			wantNoCarried(t, carried(good.Stream, context, good.Data), "context")
		}
		wantNoCarried(t, carried(good.Stream, good.Context, letters(1201)), "data")
	}
	for stream := range 3000 {
		if good := impl.GoodCarried(carried(stream, 0, "")); good != (stream%4 == 0) {
			t.Error(stream, good)
		}
	}
}

func TestReadCarriedWithNeedlessBytes(t *testing.T) {
	sizes := []int{1, 2, 4, 8}
	for _, told := range []int{0, 1, 63, 64, 16383, 16384, 1073741823, 1073741824, mostTold} {
		for _, context := range []int{0, 1, 63, 64, 16383, 16384, 1073741823, 1073741824, mostVarint} {
			for _, toldSize := range sizes {
				for _, contextSize := range sizes {
					if toldSize < len(leastVarint(told)) || contextSize < len(leastVarint(context)) {
						continue
					}
					head := varint(told, toldSize) + varint(context, contextSize)
					for _, data := range []string{"", "\x00", "hi", letters(1200)} {
						wantReadCarried(t, head+data, carried(4*told, context, data))
					}
					wantNoReadCarried(t, head+letters(1201), "too much data")
					for size := range head {
						wantNoReadCarried(t, head[:size], "cut off")
					}
				}
			}
		}
	}
}

// What is told of a stream can be a number of which four times as much is no stream, or would be another one.
func TestReadCarriedOfStreamsTooGreat(t *testing.T) {
	for _, told := range []int{mostTold + 1, mostTold + 2, mostTold + 64, 2*mostTold + 1, 2*mostTold + 2, 2*mostTold + 3, 3*mostTold + 3, 3*mostTold + 4, mostVarint - 1, mostVarint} {
		for _, data := range []string{"", "x", letters(1200)} {
			wantNoReadCarried(t, wide(told)+"\x00"+data, "stream")
			wantNoReadCarried(t, wide(told, mostVarint)+data, "stream")
		}
	}
	for _, told := range []int{mostTold, mostTold - 1, mostTold - 63} {
		wantReadCarried(t, wide(told)+"\x00x", carried(4*told, 0, "x"))
	}
}

func TestReadCarriedOfShortBytes(t *testing.T) {
	wantNoReadCarried(t, "", "nothing")
	for a := range 256 {
		wantNoReadCarried(t, string([]byte{byte(a)}), "a byte")
		for b := range 256 {
			s := string([]byte{byte(a), byte(b)})
			if a < 64 && b < 64 {
				wantReadCarried(t, s, carried(4*a, b, ""))
				wantReadCarried(t, s+"\x00", carried(4*a, b, "\x00"))
			} else {
				wantNoReadCarried(t, s, "two bytes")
			}
		}
	}
}

// All that lies behind the two numbers is data, also what looks like a capsule or a number.
func TestReadCarriedCutOff(t *testing.T) {
	for _, c := range []impl.Carried{carried(44, 0, "x"), carried(256, 64, "\x00\x01ab"), carried(65536, 16384, "\xff\xff"), carried(mostVarint-3, mostVarint, letters(40))} {
		s, _ := impl.CarriedBytes(c)
		head := len(s) - len(c.Data)
		for size := range len(s) + 1 {
			if size < head {
				wantNoReadCarried(t, s[:size], "cut off")
				continue
			}
			wantReadCarried(t, s[:size], carried(c.Stream, c.Context, c.Data[:size-head]))
		}
	}
}

func TestReadCarriedOfMostBytes(t *testing.T) {
	for _, head := range []string{"\x00\x00", wide(0, 0), wide(mostTold, mostVarint)} {
		for _, size := range []int{1499, 1500, 1501, 3000, 30000} {
			wantNoReadCarried(t, head+letters(size-len(head)), "many bytes")
		}
	}
	for _, size := range []int{1500, 1501} {
		wantNoReadCarried(t, strings.Repeat("\x00", size), "bytes 0")
		wantNoReadCarried(t, strings.Repeat("\xff", size), "bytes 255")
	}
}
